"""What the tests share: calls by name, answers taken apart, and a plain model worked from the document's words."""

from sharedtrees.versions import answers

GREATEST_KEY = 1099511627775
GREATEST_VALUE = 1000000000000000
LEAST_VALUE = -1000000000000000


def put(v, k, x):
    return [0, v, k, x]


def delete(v, k):
    return [1, v, k]


def get(v, k):
    return [2, v, k]


def listing(v, lo, hi):
    return [3, v, lo, hi]


def diff(a, b):
    return [4, a, b]


def patch(v, d):
    return [5, v, len(d)] + d


def join(d, e):
    return [6, len(d)] + d + [len(e)] + e


def merge(a, b):
    return [7, a, b]


def mergefrom(c, a, b):
    return [8, c, a, b]


def same(a, b):
    return [9, a, b]


def nodes():
    return [10]


def shared(a, b):
    return [11, a, b]


# Version 4 is fork 9 (bit 2) of leaf 1 and fork 8 (bit 1) of leaf 5 and fork 7 (bit 0) of leaves 6 and 7.
FOUR = [put(0, 5, 7), put(1, 6, 8), put(2, 1, 9), put(3, 7, 1)]


def told(value):
    return [0, 0] if value is None else [1, value]


def change(key, before, behind):
    return [key] + told(before) + told(behind)


def changes(*rows):
    return [number for row in rows for number in change(*row)]


def split(numbers):
    parts = []
    place = 0
    while place < len(numbers):
        count = numbers[place]
        part = numbers[place + 1:place + 1 + count]
        if len(part) != count:
            raise ValueError("an answer is shorter than its count")
        parts.append(part)
        place += 1 + count
    return parts


def run(*calls):
    return split(answers([number for call in calls for number in call]))


# Each key lies above all before it: from nothing the first makes a leaf, every other one a leaf and a fork.
def climbing(count, value):
    return changes(*[(2 ** place, None, value) for place in range(count)])


# A tree as nested tuples, made from the map at once by the document's own definition.
def tree_of(mapping):
    keys = sorted(mapping)
    if not keys:
        return None
    if len(keys) == 1:
        return (keys[0], mapping[keys[0]])
    bit = max(b for b in range(40) if len({key // 2 ** b % 2 for key in keys}) == 2)
    left = {key: mapping[key] for key in keys if key // 2 ** bit % 2 == 0}
    right = {key: mapping[key] for key in keys if key // 2 ** bit % 2 == 1}
    return (bit, tree_of(left), tree_of(right))


def is_fork(tree):
    return tree is not None and len(tree) == 3


def subtrees(tree):
    if tree is None:
        return set()
    if not is_fork(tree):
        return {tree}
    return {tree} | subtrees(tree[1]) | subtrees(tree[2])


def map_of(tree):
    return {node[0]: node[1] for node in subtrees(tree) if not is_fork(node)}


def least(tree):
    return min(map_of(tree))


def list_count(tree, lo, hi):
    if not is_fork(tree):
        return 0 if tree is None else 1
    bit = tree[0]
    first = least(tree[1]) // 2 ** (bit + 1) * 2 ** (bit + 1)
    mid = first + 2 ** bit
    if hi < first or not lo < first + 2 ** (bit + 1):
        return 1
    count = 1
    if lo < mid:
        count += list_count(tree[1], lo, hi)
    if not hi < mid:
        count += list_count(tree[2], lo, hi)
    return count


def diff_count(one, two):
    if one == two:
        return 0
    if is_fork(one) and is_fork(two) and one[0] == two[0]:
        block = 2 ** (one[0] + 1)
        if least(one[1]) // block == least(two[1]) // block:
            return diff_count(one[1], two[1]) + diff_count(one[2], two[2]) + 1
    return 1


def map_difference(one, two):
    return [(key, one.get(key), two.get(key)) for key in sorted({**one, **two}) if one.get(key) != two.get(key)]


# No nodes are thrown away here, so a node is there just if its tuple was ever made.
class Model:
    def __init__(self):
        self.maps = [{}]
        self.parents = [[]]
        self.made = set()

    def answer(self, call):
        kinds = (self.put, self.delete, self.get, self.listing, self.diff, self.patch, self.join,
                 self.merge, self.mergefrom, self.same, self.nodes, self.shared)
        return kinds[call[0]](call[1:])

    def write(self, mapping, writes, parents):
        if len(self.maps) == 200:
            return [-3]
        made = set(self.made)
        mapping = dict(mapping)
        for key, value in writes:
            if value is None:
                mapping.pop(key, None)
            else:
                mapping[key] = value
            made |= subtrees(tree_of(mapping))
        if len(made) > 4000:
            return [-4]
        count = len(made) - len(self.made)
        self.made = made
        self.maps.append(mapping)
        self.parents.append(parents)
        return [len(self.maps) - 1, count]

    def there(self, *versions):
        return all(version < len(self.maps) for version in versions)

    def put(self, row):
        v, k, x = row
        return self.write(self.maps[v], [(k, x)], [v]) if self.there(v) else [-2]

    def delete(self, row):
        v, k = row
        return self.write(self.maps[v], [(k, None)], [v]) if self.there(v) else [-2]

    def get(self, row):
        v, k = row
        return told(self.maps[v].get(k)) if self.there(v) else [-2]

    def listing(self, row):
        v, lo, hi = row
        if not self.there(v):
            return [-2]
        pairs = [pair for pair in sorted(self.maps[v].items()) if lo <= pair[0] <= hi]
        count = list_count(tree_of(self.maps[v]), lo, hi)
        return [count, len(pairs)] + [number for pair in pairs for number in pair]

    def diff(self, row):
        a, b = row
        if not self.there(a, b):
            return [-2]
        rows = map_difference(self.maps[a], self.maps[b])
        return [diff_count(tree_of(self.maps[a]), tree_of(self.maps[b])), len(rows)] + changes(*rows)

    def rows(self, numbers):
        found = []
        for place in range(0, len(numbers), 5):
            key, had, before, has, behind = numbers[place:place + 5]
            found.append((key, before if had else None, behind if has else None))
        return found

    def is_difference(self, rows):
        keys = [row[0] for row in rows]
        return keys == sorted(set(keys)) and all(row[1] != row[2] for row in rows)

    def patch(self, row):
        v = row[0]
        rows = self.rows(row[2:])
        if not self.there(v):
            return [-2]
        if not self.is_difference(rows):
            return [-5]
        for place, (key, before, behind) in enumerate(rows):
            if self.maps[v].get(key) != before:
                return [-1000 - place]
        return self.write(self.maps[v], [(key, behind) for key, before, behind in rows], [v])

    def join(self, row):
        first = self.rows(row[1:1 + row[0]])
        second = self.rows(row[2 + row[0]:])
        if not self.is_difference(first) or not self.is_difference(second):
            return [-5]
        found = {key: (before, behind) for key, before, behind in first}
        for key, before, behind in second:
            if key in found and found[key][1] != before:
                return [-6]
            found[key] = (found[key][0] if key in found else before, behind)
        rows = [(key,) + found[key] for key in sorted(found) if found[key][0] != found[key][1]]
        return [len(rows)] + changes(*rows)

    def line(self, version):
        return {version}.union(*[self.line(parent) for parent in self.parents[version]])

    def merge(self, row):
        a, b = row
        return self.mergefrom([max(self.line(a) & self.line(b)), a, b]) if self.there(a, b) else [-2]

    def mergefrom(self, row):
        if not self.there(*row):
            return [-2]
        c, a, b = row
        base, one, two = [self.maps[version] for version in row]
        writes = []
        conflicts = []
        for key in sorted({**base, **one, **two}):
            kept, ours, theirs = base.get(key), one.get(key), two.get(key)
            if kept == ours == theirs:
                continue
            if kept != ours and kept != theirs and ours != theirs:
                conflicts.append([key] + told(kept) + told(ours) + told(theirs))
            else:
                writes.append((key, theirs if kept == ours else ours))
        answer = self.write(base, writes, [a] if a == b else [a, b])
        if answer[0] < 0:
            return answer
        return answer + [len(conflicts)] + [number for conflict in conflicts for number in conflict]

    def same(self, row):
        return [int(self.maps[row[0]] == self.maps[row[1]])] if self.there(*row) else [-2]

    def nodes(self, row):
        needed = set()
        for mapping in self.maps:
            needed |= subtrees(tree_of(mapping))
        return [len(self.made), len(self.made), len(needed)]

    def shared(self, row):
        if not self.there(*row):
            return [-2]
        one, two = [subtrees(tree_of(self.maps[version])) for version in row]
        return [len(one), len(two), len(one & two)]
