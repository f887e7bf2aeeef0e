"""Calls 18 parents, 19 common, 22 look and 23 versions."""

import unittest

from tests.helper import FOUR, GREATEST_KEY, GREATEST_VALUE, LEAST_VALUE
from tests.helper import changes, collect, common, delete, drop, look, merge, mergefrom, parents, patch, put, putall
from tests.helper import run, versions


class Parents(unittest.TestCase):
    def test_version_nought_has_none(self):
        self.assertEqual(run(parents(0)), [[1, 0]])

    def test_each_call_that_makes_a_version(self):
        setup = [put(0, 1, 1), put(1, 2, 2), delete(2, 1), patch(3, []), putall(4, []), merge(2, 5), mergefrom(0, 6, 1)]
        found = run(*setup, *[parents(version) for version in range(1, 8)])
        self.assertEqual(found[7:], [[1, 1, 0], [1, 1, 1], [1, 1, 2], [1, 1, 3], [1, 1, 4], [1, 2, 2, 5], [1, 2, 6, 1]])

    def test_merge_of_one_version_has_one_parent(self):
        setup = [put(0, 1, 1), merge(1, 1), mergefrom(0, 1, 1), merge(0, 0)]
        self.assertEqual(run(*setup, parents(2), parents(3), parents(4))[4:], [[1, 1, 1], [1, 1, 1], [1, 1, 0]])

    def test_merge_of_two_versions_of_one_map_has_two(self):
        setup = [put(0, 1, 1), put(0, 1, 1), merge(2, 1)]
        self.assertEqual(run(*setup, parents(3))[3], [1, 2, 2, 1])

    def test_dropped(self):
        # Version 3 alone needs fork 5.
        found = run(*FOUR, merge(3, 4), drop(3), drop(5), parents(3), parents(4), parents(5), collect(), parents(5))
        self.assertEqual(found[7:], [[0, 1, 2], [1, 1, 3], [0, 2, 3, 4], [1], [0, 2, 3, 4]])

    def test_not_there(self):
        self.assertEqual(run(parents(1), parents(199), parents(200), parents(-1)), [[-2], [-2], [-1], [-1]])


class Common(unittest.TestCase):
    # 2 and 3 come of 1, 4 of 2 and 3, 5 of 3, 6 of 0.
    LINES = [put(0, 1, 1), put(1, 1, 2), put(1, 1, 3), merge(2, 3), put(3, 1, 4), put(0, 1, 5)]

    def check(self, rows, between=()):
        calls = [common(first, second) for first, second, both in rows]
        calls += [common(second, first) for first, second, both in rows]
        expected = [[both] for first, second, both in rows] * 2
        self.assertEqual(run(*self.LINES, *between, *calls)[6 + len(between):], expected)

    def test_greatest_number_in_both_lines(self):
        self.check([(2, 3, 1), (2, 4, 2), (3, 4, 3), (4, 5, 3), (2, 5, 1), (1, 5, 1), (6, 5, 0), (6, 4, 0), (0, 4, 0)])

    def test_version_with_itself(self):
        self.check([(version, version, version) for version in range(7)])

    def test_dropped_versions_are_told(self):
        rows = [(2, 3, 1), (3, 4, 3), (4, 5, 3), (3, 3, 3), (6, 1, 0), (1, 1, 1)]
        self.check(rows, [drop(1), drop(3), collect()])

    def test_base_of_mergefrom_is_not_in_the_line(self):
        setup = [put(0, 1, 1), put(0, 1, 2), put(0, 1, 3), mergefrom(3, 1, 2)]
        self.assertEqual(run(*setup, common(4, 3), common(4, 2), common(4, 1))[4:], [[0], [2], [1]])

    def test_not_there(self):
        self.assertEqual(run(common(0, 1), common(1, 0), common(199, 0), common(0, 200), common(-1, 0), common(1, 200)),
                         [[-2], [-2], [-2], [-1], [-1], [-1]])


class Look(unittest.TestCase):
    def test_nothing_leaf_and_forks(self):
        self.assertEqual(run(*FOUR, look(0), look(1), look(2), look(3), look(4))[4:],
                         [[0, 0], [1, 1, 5, 7], [3, 2, 1, 1, 2], [5, 2, 2, 4, 3], [9, 2, 2, 4, 8]])

    def test_version_become_nothing(self):
        self.assertEqual(run(put(0, 1, 1), delete(1, 1), look(2))[2], [0, 0])

    def test_edges(self):
        found = run(put(0, 0, LEAST_VALUE), put(0, GREATEST_KEY, GREATEST_VALUE), put(1, GREATEST_KEY, GREATEST_VALUE),
                    look(1), look(2), look(3), put(0, 0, 0), look(4))
        self.assertEqual(found[3:], [[1, 1, 0, LEAST_VALUE], [2, 1, GREATEST_KEY, GREATEST_VALUE], [3, 2, 39, 1, 2],
                                     [4, 1], [4, 1, 0, 0]])

    def test_leaf_is_kept_ahead_of_the_fork_and_sides_go_by_the_bit(self):
        # The new leaf lies on the left, then on the right; its number is above the old one's both times.
        found = run(put(0, 4, 1), put(1, 2, 1), look(2), put(1, 6, 1), look(3))
        self.assertEqual(found[2::2], [[3, 2, 2, 2, 1], [5, 2, 1, 1, 4]])

    def test_same_tree_has_the_same_number(self):
        self.assertEqual(run(*FOUR, delete(4, 7), look(5), put(5, 7, 1), look(6))[5::2],
                         [[5, 2, 2, 4, 3], [9, 2, 2, 4, 8]])

    def test_nodes_of_a_refused_call_take_no_numbers(self):
        found = run(put(0, 1, 1), patch(1, changes((0, None, 5), (1, 2, 3))), put(1, 0, 6), look(2))
        self.assertEqual(found[1:], [[-1001], [2, 2], [3, 2, 0, 2, 1]])


class Versions(unittest.TestCase):
    def test_how_many_there_are_and_are_held(self):
        found = run(versions(), put(0, 1, 1), versions(), delete(0, 1), drop(1), versions(), collect(), versions(),
                    drop(2), versions(), merge(0, 0), versions())
        self.assertEqual([found[place] for place in (0, 2, 5, 7, 9, 11)],
                         [[1, 1], [2, 2], [3, 2], [3, 2], [3, 1], [4, 2]])

    def test_refused_calls_make_none(self):
        self.assertEqual(run(put(0, -1, 1), put(1, 1, 1), patch(0, changes((1, 1, 2))), drop(0), versions())[-1], [1, 1])

    def test_two_hundred(self):
        self.assertEqual(run(*[delete(0, 0)] * 199, versions())[-1], [200, 200])
        self.assertEqual(run(*[delete(0, 0)] * 150, *[drop(place) for place in range(1, 50)], versions())[-1], [151, 102])


if __name__ == "__main__":
    unittest.main()
