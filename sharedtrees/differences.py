"""Changes and differences: comparing, fitting, joining, merging. A missing value is None."""

from sharedtrees.nodes import NOTHING, Fork
from sharedtrees.trees import gather_map, value_at


class Change:
    def __init__(self, key, before, behind):
        self.key = key
        self.before = before
        self.behind = behind


class Conflict:
    def __init__(self, key, base, first, second):
        self.key = key
        self.base = base
        self.first = first
        self.second = second


# What a merge comes to: pairs of a key and its value behind, to be written in order, and what clashed.
class Merging:
    def __init__(self):
        self.writes = []
        self.conflicts = []


def is_difference(changes):
    last = -1
    for change in changes:
        if change.key <= last or change.before == change.behind:
            return False
        last = change.key
    return True


# The place of the first change that does not begin with the map's value, or None if all fit.
def first_misfit(nodes, top, changes):
    for place, change in enumerate(changes):
        if value_at(nodes, top, change.key) != change.before:
            return place
    return None


def writes_of(changes):
    return [(change.key, change.behind) for change in changes]


def inverted(changes):
    return [Change(change.key, change.behind, change.before) for change in changes]


def by_key(changes):
    found = {}
    for change in changes:
        found[change.key] = change
    return found


# None if the two can't be joined.
def joined(first, second):
    ours = by_key(first)
    theirs = by_key(second)
    changes = []
    for key in sorted(set(ours) | set(theirs)):
        if key not in theirs:
            changes.append(ours[key])
        elif key not in ours:
            changes.append(theirs[key])
        elif ours[key].behind != theirs[key].before:
            return None
        elif ours[key].before != theirs[key].behind:
            changes.append(Change(key, ours[key].before, theirs[key].behind))
    return changes


def merged(first, second):
    ours = by_key(first)
    theirs = by_key(second)
    merging = Merging()
    for key in sorted(set(ours) | set(theirs)):
        if key not in theirs:
            merging.writes.append((key, ours[key].behind))
        elif key not in ours or ours[key].behind == theirs[key].behind:
            merging.writes.append((key, theirs[key].behind))
        else:
            merging.conflicts.append(Conflict(key, ours[key].before, ours[key].behind, theirs[key].behind))
    return merging


def append_map_changes(nodes, top, other, changes):
    before = {}
    behind = {}
    gather_map(nodes, top, before)
    gather_map(nodes, other, behind)
    for key in sorted(set(before) | set(behind)):
        if before.get(key) != behind.get(key):
            changes.append(Change(key, before.get(key), behind.get(key)))


def are_forks_alike(nodes, top, other):
    if top == NOTHING or other == NOTHING:
        return False
    one = nodes.node(top)
    two = nodes.node(other)
    if not isinstance(one, Fork) or not isinstance(two, Fork) or one.bit != two.bit:
        return False
    return one.least >> (one.bit + 1) == two.least >> (two.bit + 1)


# Appends the difference to the list changes, and gives back how many nodes were looked at.
def compare(nodes, top, other, changes):
    if top == other:
        return 0
    if not are_forks_alike(nodes, top, other):
        append_map_changes(nodes, top, other, changes)
        return 1
    one = nodes.node(top)
    two = nodes.node(other)
    left_count = compare(nodes, one.left, two.left, changes)
    right_count = compare(nodes, one.right, two.right, changes)
    return left_count + right_count + 1


def difference(nodes, top, other):
    changes = []
    compare(nodes, top, other, changes)
    return changes
