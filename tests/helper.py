"""What the tests share: calls by name, answers taken apart, and a plain model worked from the document's words."""

from sharedtrees.versions import answers

GREATEST_KEY = 1099511627775
GREATEST_VALUE = 1000000000000000
LEAST_VALUE = -1000000000000000


def put(v, k, x):
    return [0, v, k, x]


def delete(v, k):
    return [1, v, k]


def get(v, k):
    return [2, v, k]


def listing(v, lo, hi):
    return [3, v, lo, hi]


def diff(a, b):
    return [4, a, b]


def patch(v, d):
    return [5, v, len(d)] + d


def join(d, e):
    return [6, len(d)] + d + [len(e)] + e


def merge(a, b):
    return [7, a, b]


def mergefrom(c, a, b):
    return [8, c, a, b]


def same(a, b):
    return [9, a, b]


def nodes():
    return [10]


def shared(a, b):
    return [11, a, b]


def drop(v):
    return [12, v]


def collect():
    return [13]


def size(v):
    return [14, v]


def from_key(v, k):
    return [15, v, k]


def nth(v, n):
    return [16, v, n]


def summed(v, lo, hi):
    return [17, v, lo, hi]


def parents(v):
    return [18, v]


def common(a, b):
    return [19, a, b]


def putall(v, pairs):
    return [20, v, len(pairs)] + pairs


def inverse(d):
    return [21, len(d)] + d


def look(v):
    return [22, v]


def versions():
    return [23]


# What each call takes, by its number: v a held version, w a version held or not, k a key, x a value, n a place,
# d a difference, p pairs.
TAKES = ("vkx", "vk", "vk", "vkk", "vv", "vd", "dd", "vv", "vvv", "vv", "", "vv",
         "v", "", "v", "vk", "vn", "vkk", "w", "ww", "vp", "d", "v", "")


# Version 4 is fork 9 (bit 2) of leaf 1 and fork 8 (bit 1) of leaf 5 and fork 7 (bit 0) of leaves 6 and 7.
FOUR = [put(0, 5, 7), put(1, 6, 8), put(2, 1, 9), put(3, 7, 1)]


def told(value):
    return [0, 0] if value is None else [1, value]


def change(key, before, behind):
    return [key] + told(before) + told(behind)


def changes(*rows):
    return [number for row in rows for number in change(*row)]


def split(numbers):
    parts = []
    place = 0
    while place < len(numbers):
        count = numbers[place]
        part = numbers[place + 1:place + 1 + count]
        if len(part) != count:
            raise ValueError("an answer is shorter than its count")
        parts.append(part)
        place += 1 + count
    return parts


def run(*calls):
    return split(answers([number for call in calls for number in call]))


# Each key lies above all before it: from nothing the first makes a leaf, every other one a leaf and a fork.
def climbing(count, value):
    return changes(*[(2 ** place, None, value) for place in range(count)])


# A tree as nested tuples, made from the map at once by the document's own definition.
def tree_of(mapping):
    keys = sorted(mapping)
    if not keys:
        return None
    if len(keys) == 1:
        return (keys[0], mapping[keys[0]])
    bit = max(b for b in range(40) if len({key // 2 ** b % 2 for key in keys}) == 2)
    left = {key: mapping[key] for key in keys if key // 2 ** bit % 2 == 0}
    right = {key: mapping[key] for key in keys if key // 2 ** bit % 2 == 1}
    return (bit, tree_of(left), tree_of(right))


def is_fork(tree):
    return tree is not None and len(tree) == 3


def subtrees(tree):
    if tree is None:
        return set()
    if not is_fork(tree):
        return {tree}
    return {tree} | subtrees(tree[1]) | subtrees(tree[2])


def map_of(tree):
    return {node[0]: node[1] for node in subtrees(tree) if not is_fork(node)}


def least(tree):
    return min(map_of(tree))


def list_count(tree, lo, hi):
    if not is_fork(tree):
        return 0 if tree is None else 1
    bit = tree[0]
    first = least(tree[1]) // 2 ** (bit + 1) * 2 ** (bit + 1)
    mid = first + 2 ** bit
    if hi < first or not lo < first + 2 ** (bit + 1):
        return 1
    count = 1
    if lo < mid:
        count += list_count(tree[1], lo, hi)
    if not hi < mid:
        count += list_count(tree[2], lo, hi)
    return count


def diff_count(one, two):
    if one == two:
        return 0
    if is_fork(one) and is_fork(two) and one[0] == two[0]:
        block = 2 ** (one[0] + 1)
        if least(one[1]) // block == least(two[1]) // block:
            return diff_count(one[1], two[1]) + diff_count(one[2], two[2]) + 1
    return 1


def map_difference(one, two):
    return [(key, one.get(key), two.get(key)) for key in sorted({**one, **two}) if one.get(key) != two.get(key)]


def depth(tree):
    if not is_fork(tree):
        return 0 if tree is None else 1
    return 1 + max(depth(tree[1]), depth(tree[2]))


# The nodes from the top down to where a key lies or would lie: these alone may be new when it was written.
def way(tree, key):
    found = []
    while is_fork(tree):
        found.append(tree)
        tree = tree[1 + key // 2 ** tree[0] % 2]
    return found if tree is None else found + [tree]


def rows_of(numbers):
    found = []
    for place in range(0, len(numbers), 5):
        key, had, before, has, behind = numbers[place:place + 5]
        found.append((key, before if had else None, behind if has else None))
    return found


def is_difference(rows):
    keys = [row[0] for row in rows]
    return keys == sorted(set(keys)) and all(row[1] != row[2] for row in rows)


def taken(call):
    found = []
    place = 1
    for letter in TAKES[call[0]]:
        if letter in "dp":
            found.append(call[place + 1:place + 1 + call[place]])
            place += 1 + call[place]
        else:
            found.append(call[place])
            place += 1
    if place != len(call):
        raise ValueError("a call is longer than its form")
    return found


def fits(letter, argument):
    if letter == "d":
        rows = [argument[place:place + 5] for place in range(0, len(argument), 5)]
        return len(argument) <= 500 and len(argument) % 5 == 0 and all(fits_change(row) for row in rows)
    if letter == "p":
        return (len(argument) <= 200 and len(argument) % 2 == 0 and all(fits("k", key) for key in argument[::2])
                and all(fits("x", value) for value in argument[1::2]))
    least_and_greatest = {"v": (0, 199), "w": (0, 199), "k": (0, GREATEST_KEY), "x": (LEAST_VALUE, GREATEST_VALUE),
                          "n": (0, 9999)}[letter]
    return least_and_greatest[0] <= argument <= least_and_greatest[1]


def fits_change(row):
    values = (row[1:3], row[3:5])
    return fits("k", row[0]) and all(value == [0, 0] or (value[0] == 1 and fits("x", value[1])) for value in values)


# A node is a tree of nested tuples; it has a number as long as it isn't thrown away.
class Model:
    def __init__(self):
        self.maps = [{}]
        self.trees = [None]
        self.parents_of = [[]]
        self.lines = [{0}]
        self.held = [True]
        self.numbers = {}
        self.made = 0

    def answer(self, call):
        kinds = (self.put, self.delete, self.get, self.listing, self.diff, self.patch, self.join, self.merge,
                 self.mergefrom, self.same, self.nodes, self.shared, self.drop, self.collect, self.size, self.from_key,
                 self.nth, self.summed, self.parents, self.common, self.putall, self.inverse, self.look, self.versions)
        arguments = taken(call)
        told_with = list(zip(TAKES[call[0]], arguments))
        if not all(fits(letter, argument) for letter, argument in told_with):
            return [-1]
        for letter, argument in told_with:
            if letter in "vw" and (argument >= len(self.maps) or (letter == "v" and not self.held[argument])):
                return [-2]
        return kinds[call[0]](*arguments)

    def write(self, mapping, writes, parents):
        if len(self.maps) == 200:
            return [-3]
        numbers = dict(self.numbers)
        made = self.made
        mapping = dict(mapping)
        for key, value in writes:
            if value is None:
                mapping.pop(key, None)
            else:
                mapping[key] = value
            for node in reversed(way(tree_of(mapping), key)):
                if node not in numbers:
                    made += 1
                    numbers[node] = made
        if made > 4000:
            return [-4]
        count = made - self.made
        self.numbers = numbers
        self.made = made
        self.maps.append(mapping)
        self.trees.append(tree_of(mapping))
        self.parents_of.append(parents)
        self.lines.append({len(self.maps) - 1}.union(*[self.lines[parent] for parent in parents]))
        self.held.append(True)
        return [len(self.maps) - 1, count]

    def needed(self):
        found = set()
        for held, tree in zip(self.held, self.trees):
            if held:
                found |= subtrees(tree)
        return found

    def pairs(self, v, lo, hi):
        return [pair for pair in sorted(self.maps[v].items()) if lo <= pair[0] <= hi]

    def put(self, v, k, x):
        return self.write(self.maps[v], [(k, x)], [v])

    def delete(self, v, k):
        return self.write(self.maps[v], [(k, None)], [v])

    def get(self, v, k):
        return told(self.maps[v].get(k))

    def listing(self, v, lo, hi):
        pairs = self.pairs(v, lo, hi)
        return [list_count(self.trees[v], lo, hi), len(pairs)] + [number for pair in pairs for number in pair]

    def diff(self, a, b):
        rows = map_difference(self.maps[a], self.maps[b])
        return [diff_count(self.trees[a], self.trees[b]), len(rows)] + changes(*rows)

    def patch(self, v, d):
        rows = rows_of(d)
        if not is_difference(rows):
            return [-5]
        for place, (key, before, behind) in enumerate(rows):
            if self.maps[v].get(key) != before:
                return [-1000 - place]
        return self.write(self.maps[v], [(key, behind) for key, before, behind in rows], [v])

    def join(self, d, e):
        first = rows_of(d)
        second = rows_of(e)
        if not is_difference(first) or not is_difference(second):
            return [-5]
        found = {key: (before, behind) for key, before, behind in first}
        for key, before, behind in second:
            if key in found and found[key][1] != before:
                return [-6]
            found[key] = (found[key][0] if key in found else before, behind)
        rows = [(key,) + found[key] for key in sorted(found) if found[key][0] != found[key][1]]
        return [len(rows)] + changes(*rows)

    def merge(self, a, b):
        base = max(self.lines[a] & self.lines[b])
        return self.mergefrom(base, a, b) if self.held[base] else [-5]

    def mergefrom(self, c, a, b):
        base, one, two = self.maps[c], self.maps[a], self.maps[b]
        writes = []
        conflicts = []
        for key in sorted({**base, **one, **two}):
            kept, ours, theirs = base.get(key), one.get(key), two.get(key)
            if kept == ours == theirs:
                continue
            if kept != ours and kept != theirs and ours != theirs:
                conflicts.append([key] + told(kept) + told(ours) + told(theirs))
            else:
                writes.append((key, theirs if kept == ours else ours))
        answer = self.write(base, writes, [a] if a == b else [a, b])
        if answer[0] < 0:
            return answer
        return answer + [len(conflicts)] + [number for conflict in conflicts for number in conflict]

    def same(self, a, b):
        return [int(self.maps[a] == self.maps[b])]

    def nodes(self):
        return [len(self.numbers), self.made, len(self.needed())]

    def shared(self, a, b):
        one, two = subtrees(self.trees[a]), subtrees(self.trees[b])
        return [len(one), len(two), len(one & two)]

    def drop(self, v):
        if v == 0:
            return [-5]
        self.held[v] = False
        return [0]

    def collect(self):
        before = len(self.numbers)
        needed = self.needed()
        self.numbers = {node: number for node, number in self.numbers.items() if node in needed}
        return [before - len(self.numbers)]

    def size(self, v):
        return [len(self.maps[v]), depth(self.trees[v])]

    def place(self, pairs, n):
        return [1] + list(pairs[n]) if n < len(pairs) else [0, 0, 0]

    def from_key(self, v, k):
        return self.place(self.pairs(v, k, GREATEST_KEY), 0)

    def nth(self, v, n):
        return self.place(self.pairs(v, 0, GREATEST_KEY), n)

    def summed(self, v, lo, hi):
        return [0, sum(value for key, value in self.pairs(v, lo, hi))]

    def parents(self, v):
        return [int(self.held[v]), len(self.parents_of[v])] + self.parents_of[v]

    def common(self, a, b):
        return [max(self.lines[a] & self.lines[b])]

    def putall(self, v, pairs):
        return self.write(self.maps[v], list(zip(pairs[::2], pairs[1::2])), [v])

    def inverse(self, d):
        rows = rows_of(d)
        if not is_difference(rows):
            return [-5]
        return [len(rows)] + changes(*[(key, behind, before) for key, before, behind in rows])

    def look(self, v):
        tree = self.trees[v]
        if tree is None:
            return [0, 0]
        if is_fork(tree):
            return [self.numbers[tree], 2, tree[0], self.numbers[tree[1]], self.numbers[tree[2]]]
        return [self.numbers[tree], 1] + list(tree)

    def versions(self):
        return [len(self.maps), sum(self.held)]
