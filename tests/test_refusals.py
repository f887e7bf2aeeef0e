"""Ranges (-1), versions not there or not held (-2), the order of refusals, and that a refusal changes nothing."""

import unittest

from tests.helper import GREATEST_KEY, GREATEST_VALUE, LEAST_VALUE
from tests.helper import changes, collect, common, delete, diff, drop, from_key, get, inverse, join, listing, look
from tests.helper import merge, mergefrom, nodes, nth, parents, patch, put, putall, run, same, shared, size, summed
from tests.helper import versions

FAR = 9223372036854775807
GOOD_VERSIONS = (0, 2)
BAD_VERSIONS = (-1, 200, -FAR - 1, FAR)
GOOD_KEYS = (0, GREATEST_KEY)
BAD_KEYS = (-1, GREATEST_KEY + 1, -FAR - 1, FAR)
GOOD_VALUES = (LEAST_VALUE, GREATEST_VALUE, 0)
GOOD_PLACES = (0, 9999)
BAD_PLACES = (-1, 10000, -FAR - 1, FAR)
BAD_VALUES = (LEAST_VALUE - 1, GREATEST_VALUE + 1, -FAR - 1, FAR)

SETUP = [put(0, 3, 30), put(1, 4, 40)]
# Version 3 alone needs three of six nodes, and is dropped.
GONE = SETUP + [put(2, 5, 50), drop(3)]
# What the object is told by: its nodes, what each version is, and the numbers of the next version and nodes.
LOOK = [nodes(), versions(), listing(0, 0, GREATEST_KEY), listing(1, 0, GREATEST_KEY), listing(2, 0, GREATEST_KEY),
        shared(1, 2), look(1), look(2), parents(0), parents(1), parents(2), parents(3), delete(0, 0), put(2, 0, 9),
        nodes(), collect()]
ALIKE = [[0, 0], [1, 1, 3, 30], [3, 2, 3, 30, 4, 40], [1, 3, 1], [1, 1, 3, 30], [3, 2, 2, 1, 2], [1, 0], [1, 1, 0],
         [1, 1, 1]]
SEEN = [[3, 3, 3], [3, 3]] + ALIKE + [[-2], [3, 0], [4, 3], [6, 6, 6], [0]]
GONE_SEEN = [[6, 6, 3], [4, 3]] + ALIKE + [[0, 1, 2], [4, 0], [5, 3], [9, 9, 6], [3]]
COLLECTED_SEEN = [[3, 6, 3], [4, 3]] + ALIKE + [[0, 1, 2], [4, 0], [5, 3], [6, 9, 6], [0]]

# Each call with one argument left open, and what fits there. A version besides 0 is told as r.
ARGUMENTS = [
    (lambda v: put(v, 1, 1), "v"), (lambda k: put(2, k, 1), "k"), (lambda x: put(2, 1, x), "x"),
    (lambda v: delete(v, 1), "v"), (lambda k: delete(2, k), "k"),
    (lambda v: get(v, 1), "v"), (lambda k: get(2, k), "k"),
    (lambda v: listing(v, 1, 2), "v"), (lambda k: listing(2, k, 2), "k"), (lambda k: listing(2, 1, k), "k"),
    (lambda v: diff(v, 1), "v"), (lambda v: diff(1, v), "v"),
    (lambda v: patch(v, []), "v"), (lambda d: patch(2, d), "d"),
    (lambda d: join(d, []), "d"), (lambda d: join([], d), "d"),
    (lambda v: merge(v, 1), "v"), (lambda v: merge(1, v), "v"),
    (lambda v: mergefrom(v, 1, 2), "v"), (lambda v: mergefrom(1, v, 2), "v"), (lambda v: mergefrom(1, 2, v), "v"),
    (lambda v: same(v, 1), "v"), (lambda v: same(1, v), "v"),
    (lambda v: shared(v, 1), "v"), (lambda v: shared(1, v), "v"),
    (lambda v: drop(v), "r"), (lambda v: size(v), "v"),
    (lambda v: from_key(v, 1), "v"), (lambda k: from_key(2, k), "k"),
    (lambda v: nth(v, 1), "v"), (lambda n: nth(2, n), "n"),
    (lambda v: summed(v, 1, 2), "v"), (lambda k: summed(2, k, 2), "k"), (lambda k: summed(2, 1, k), "k"),
    (lambda v: parents(v), "w"), (lambda v: common(v, 1), "w"), (lambda v: common(1, v), "w"),
    (lambda v: putall(v, []), "v"), (lambda v: putall(v, [1, 1]), "v"), (lambda p: putall(2, p), "p"),
    (lambda d: inverse(d), "d"), (lambda v: look(v), "v"),
]

GOOD_DIFFERENCES = ([], changes((0, None, 0)), changes((GREATEST_KEY, None, LEAST_VALUE)),
                    changes(*[(key + 9, None, GREATEST_VALUE) for key in range(100)]))


def bad_differences():
    found = [[1], [1, 0], [1, 0, 0], [1, 0, 0, 1], [1, 0, 0, 1, 1, 2], changes((1, None, 1), (2, None, 1))[:-1],
             changes(*[(key + 9, None, 1) for key in range(101)]), changes(*[(key, None, 1) for key in range(109)]),
             changes(*[(key + 9, None, 1) for key in range(100)]) + [1]]
    for key in BAD_KEYS:
        found.append([key, 0, 0, 1, 1])
        found.append(changes((1, None, 1)) + [key, 0, 0, 1, 1])
    for value in BAD_VALUES:
        found.append([9, 0, 0, 1, value])
        found.append([9, 1, value, 0, 0])
    for value in (1, -1, 7, FAR):
        found.append([9, 0, value, 1, 1])
        found.append([9, 1, 1, 0, value])
    for present in (2, -1, FAR, -FAR - 1):
        found.append([9, present, 0, 1, 1])
        found.append([9, present, 1, 1, 2])
        found.append([9, 1, 1, present, 0])
        found.append([9, 1, 1, present, 2])
    return found


GOOD_PAIRS = ([], [0, LEAST_VALUE], [GREATEST_KEY, GREATEST_VALUE], [1, 1] * 100, [2, 1, 1, 1])


def bad_pairs():
    found = [[1], [1, 1, 1], [1, 1] * 100 + [1], [1, 1] * 101, [1, 1] * 500]
    for key in BAD_KEYS:
        found.append([key, 1])
        found.append([1, 1, key, 1])
    for value in BAD_VALUES:
        found.append([1, value])
        found.append([1, value, 1, 1])
    return found


GOOD = {"v": GOOD_VERSIONS, "w": GOOD_VERSIONS, "r": (1, 2), "k": GOOD_KEYS, "x": GOOD_VALUES, "n": GOOD_PLACES,
        "d": GOOD_DIFFERENCES, "p": GOOD_PAIRS}
BAD = {"v": BAD_VERSIONS, "w": BAD_VERSIONS, "r": BAD_VERSIONS, "k": BAD_KEYS, "x": BAD_VALUES, "n": BAD_PLACES,
       "d": bad_differences(), "p": bad_pairs()}


class Refused(unittest.TestCase):
    def check_refused(self, call, number):
        self.assertEqual(run(*SETUP, call, *LOOK)[2:], [[number]] + SEEN, call)

    def check_refused_behind_a_drop(self, call, number):
        self.assertEqual(run(*GONE, call, *LOOK)[4:], [[number]] + GONE_SEEN, call)
        self.assertEqual(run(*GONE, collect(), call, *LOOK)[5:], [[number]] + COLLECTED_SEEN, call)

    def test_what_the_object_looks_like(self):
        self.assertEqual(run(*SETUP, *LOOK)[2:], SEEN)
        self.assertEqual(run(*GONE, *LOOK)[4:], GONE_SEEN)
        self.assertEqual(run(*GONE, collect(), *LOOK)[5:], COLLECTED_SEEN)


class Ranges(Refused):
    def test_edges_are_in_range(self):
        for make, kind in ARGUMENTS:
            for argument in GOOD[kind]:
                self.assertGreaterEqual(run(*SETUP, make(argument))[2][0], 0, make(argument))

    def test_outside_is_refused(self):
        for make, kind in ARGUMENTS:
            for argument in BAD[kind]:
                self.check_refused(make(argument), -1)

    def test_outside_is_refused_behind_a_drop(self):
        for make, kind in ARGUMENTS:
            self.check_refused_behind_a_drop(make(BAD[kind][0]), -1)

    def test_greatest_version_is_in_range_but_not_there(self):
        for make, kind in ARGUMENTS:
            if kind in "vwr":
                self.check_refused(make(199), -2)


class MissingVersions(Refused):
    def test_next_version_is_not_there(self):
        for make, kind in ARGUMENTS:
            if kind in "vwr":
                self.check_refused(make(3), -2)
                self.check_refused_behind_a_drop(make(4), -2)


class DroppedVersions(Refused):
    def test_named_by_each_call(self):
        for make, kind in ARGUMENTS:
            if kind in "vr":
                self.check_refused_behind_a_drop(make(3), -2)

    def test_named_by_parents_and_common(self):
        told = (parents(3), common(3, 1), common(1, 3), common(3, 3), common(0, 3))
        answers = [[0, 1, 2], [1], [1], [3], [0]]
        self.assertEqual(run(*GONE, *told)[4:], answers)
        self.assertEqual(run(*GONE, collect(), *told)[5:], answers)

    def test_held_versions_are_answered_as_before(self):
        for make, kind in ARGUMENTS:
            if kind in "vw":
                for version in GOOD_VERSIONS:
                    self.assertGreaterEqual(run(*GONE, collect(), make(version))[5][0], 0, make(version))


class Order(Refused):
    def test_range_goes_ahead_of_the_version(self):
        for call in (put(3, -1, 1), put(3, 1, GREATEST_VALUE + 1), delete(3, -1), get(3, -1), listing(3, -1, 1),
                     listing(3, 1, -1), diff(3, 200), diff(-1, 3), patch(3, [1]), patch(3, [1, 0, 1, 1, 1]),
                     merge(3, 200), merge(-1, 3), mergefrom(3, 4, 200), mergefrom(200, 3, 3), same(3, 200),
                     same(-1, 3), shared(3, 200), shared(-1, 3), from_key(3, -1), from_key(3, GREATEST_KEY + 1),
                     nth(3, -1), nth(3, 10000), summed(3, -1, 1), summed(3, 1, -1), summed(3, 1, GREATEST_KEY + 1),
                     common(3, 200), common(-1, 3), putall(3, [1]), putall(3, [-1, 1]), putall(3, [1, 1] * 101),
                     putall(3, [1, GREATEST_VALUE + 1])):
            self.check_refused(call, -1)
            self.check_refused_behind_a_drop(call, -1)

    def test_version_goes_ahead_of_the_rest(self):
        self.check_refused(patch(3, changes((1, 1, 1))), -2)
        self.check_refused(patch(3, changes((3, 1, 2))), -2)
        self.check_refused_behind_a_drop(patch(3, changes((1, 1, 1))), -2)
        self.check_refused_behind_a_drop(patch(3, changes((3, 1, 2))), -2)

    def test_range_goes_ahead_of_the_rest(self):
        self.check_refused(patch(2, changes((1, 1, 1)) + [1, 2, 0, 0, 0]), -1)
        self.check_refused(patch(2, changes((3, 1, 2)) + [9, 0, 1, 1, 1]), -1)
        self.check_refused(join(changes((1, 1, 1)), [1]), -1)
        self.check_refused(inverse(changes((1, 1, 1)) + [1]), -1)
        self.check_refused(inverse(changes((2, 1, 3), (1, 1, 2)) + [-1, 0, 0, 1, 1]), -1)
        self.check_refused(join(changes((1, 1, 2)), changes((1, 1, 2)) + [GREATEST_KEY + 1, 0, 0, 1, 1]), -1)

    def test_own_refusals(self):
        self.check_refused(patch(2, changes((1, None, None))), -5)
        self.check_refused(patch(2, changes((3, 30, 1), (4, 4, 1))), -1001)
        self.check_refused(join(changes((1, 1, 1)), []), -5)
        self.check_refused(join(changes((1, 1, 2)), changes((1, 1, 2))), -6)
        self.check_refused(inverse(changes((1, 1, 1))), -5)
        self.check_refused(drop(0), -5)
        self.check_refused_behind_a_drop(drop(0), -5)
        self.check_refused_behind_a_drop(inverse(changes((1, 1, 2), (1, 2, 1))), -5)


if __name__ == "__main__":
    unittest.main()
