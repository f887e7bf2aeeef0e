"""Calls 12 drop and 13 collect, and what the other calls answer behind them."""

import unittest

from tests.helper import FOUR, changes, collect, common, delete, diff, drop, from_key, get, listing, look, merge
from tests.helper import mergefrom, nodes, nth, parents, patch, put, putall, run, same, shared, size, summed, versions

# Of the nodes of FOUR, version 4 needs all but the forks 3 and 5.
LAST_ALONE = FOUR + [drop(1), drop(2), drop(3)]


class Drop(unittest.TestCase):
    def test_is_not_held_any_more(self):
        found = run(*FOUR, drop(2), get(2, 5), versions(), parents(2))
        self.assertEqual(found[4:], [[0], [-2], [5, 4], [0, 1, 1]])

    def test_other_versions_stay_as_they_were(self):
        found = run(*FOUR, drop(3), listing(4, 0, 9), listing(2, 0, 9), get(1, 5), look(4))
        self.assertEqual(found[5:], [[7, 4, 1, 9, 5, 7, 6, 8, 7, 1], [3, 2, 5, 7, 6, 8], [1, 7], [9, 2, 2, 4, 8]])

    def test_number_of_a_dropped_version_is_not_given_again(self):
        found = run(put(0, 1, 1), drop(1), put(0, 1, 2), drop(2), delete(0, 0), versions())
        self.assertEqual(found[2:], [[2, 1], [0], [3, 0], [4, 2]])

    def test_throws_no_node_away(self):
        found = run(*LAST_ALONE, nodes(), put(4, 7, 2), delete(4, 7), look(6))
        self.assertEqual(found[7:], [[9, 9, 7], [5, 4], [6, 0], [5, 2, 2, 4, 3]])

    def test_version_nought(self):
        found = run(*FOUR, drop(0), get(0, 5), versions(), parents(0), nodes())
        self.assertEqual(found[4:], [[-5], [0, 0], [5, 5], [1, 0], [9, 9, 9]])
        self.assertEqual(run(drop(0), drop(0), versions()), [[-5], [-5], [1, 1]])

    def test_twice(self):
        self.assertEqual(run(put(0, 1, 1), drop(1), drop(1), versions())[1:], [[0], [-2], [2, 1]])

    def test_version_that_is_not_there(self):
        found = run(put(0, 1, 1), drop(2), drop(199), drop(200), drop(-1), versions())
        self.assertEqual(found[1:], [[-2], [-2], [-1], [-1], [2, 2]])

    def test_all_but_version_nought(self):
        found = run(*LAST_ALONE, drop(4), versions(), nodes(), put(0, 5, 7), look(5))
        self.assertEqual(found[7:], [[0], [5, 1], [9, 9, 0], [5, 0], [1, 1, 5, 7]])

    def test_two_versions_of_one_tree(self):
        found = run(put(0, 1, 1), put(0, 1, 1), drop(1), get(1, 1), get(2, 1), collect(), get(2, 1), nodes())
        self.assertEqual(found[3:], [[-2], [1, 1], [0], [1, 1], [1, 1, 1]])


class Collect(unittest.TestCase):
    def test_forks_that_no_held_version_needs(self):
        found = run(*LAST_ALONE, collect(), nodes(), collect(), nodes())
        self.assertEqual(found[7:], [[2], [7, 9, 7], [0], [7, 9, 7]])

    def test_what_an_older_version_needs_stays(self):
        # Without version 4, the nodes 6 to 9 go.
        found = run(*FOUR, drop(4), collect(), nodes(), listing(3, 0, 9), look(3), look(2), look(1))
        self.assertEqual(found[5:], [[4], [5, 9, 5], [5, 3, 1, 9, 5, 7, 6, 8], [5, 2, 2, 4, 3], [3, 2, 1, 1, 2],
                                     [1, 1, 5, 7]])

    def test_what_a_version_in_between_needs_stays(self):
        found = run(*FOUR, drop(1), drop(3), drop(4), collect(), nodes(), listing(2, 0, 9))
        self.assertEqual(found[7:], [[6], [3, 9, 3], [3, 2, 5, 7, 6, 8]])

    def test_nothing_to_throw_away(self):
        self.assertEqual(run(collect(), nodes()), [[0], [0, 0, 0]])
        self.assertEqual(run(*FOUR, collect(), nodes())[4:], [[0], [9, 9, 9]])

    def test_nothing_is_left(self):
        found = run(*LAST_ALONE, drop(4), collect(), nodes(), put(0, 5, 7), look(5), nodes())
        self.assertEqual(found[8:], [[9], [0, 9, 0], [5, 1], [10, 1, 5, 7], [1, 10, 1]])

    def test_nodes_made_on_the_way(self):
        # Two values changed: the fork of the first new leaf and the second old one is needed by nobody.
        setup = [put(0, 1, 1), put(1, 2, 2), patch(2, changes((1, 1, 3), (2, 2, 4)))]
        self.assertEqual(run(*setup, nodes(), collect(), nodes(), look(3))[3:], [[7, 7, 6], [1], [6, 7, 6], [7, 2, 1, 4, 6]])

    def test_leaf_alone(self):
        found = run(put(0, 1, 1), put(1, 1, 2), drop(1), collect(), nodes(), put(2, 1, 1), look(3), look(2))
        self.assertEqual(found[3:], [[1], [1, 2, 1], [3, 1], [3, 1, 1, 1], [2, 1, 1, 2]])

    def test_held_versions_read_as_before(self):
        reads = [listing(4, 0, 9), get(4, 6), diff(0, 4), diff(4, 0), same(4, 4), shared(0, 4), size(4), from_key(4, 2),
                 nth(4, 3), summed(4, 0, 9), look(4), look(0)]
        self.assertEqual(run(*LAST_ALONE, collect(), *reads)[8:], run(*LAST_ALONE, *reads)[7:])


class MadeAnew(unittest.TestCase):
    def test_forks_like_those_thrown_away_have_new_numbers(self):
        # Without 7, version 4 has the map of version 3 again; its forks 3 and 5 are made anew as 10 and 11.
        found = run(*LAST_ALONE, collect(), delete(4, 7), look(5), nodes())
        self.assertEqual(found[8:], [[5, 2], [11, 2, 2, 4, 10], [9, 11, 9]])

    def test_leaf_and_forks_like_those_thrown_away(self):
        found = run(*FOUR, drop(4), collect(), put(3, 7, 1), look(5), nodes())
        self.assertEqual(found[6:], [[5, 4], [13, 2, 2, 4, 12], [9, 13, 9]])

    def test_nodes_that_stayed_are_found_again(self):
        found = run(*LAST_ALONE, collect(), put(0, 5, 7), look(5), put(4, 7, 1), look(6), same(4, 6))
        self.assertEqual(found[8:], [[5, 0], [1, 1, 5, 7], [6, 0], [9, 2, 2, 4, 8], [1]])

    def test_same_maps_behind_a_collect_are_the_same_tree(self):
        # Fork 5 is thrown away. From nothing: 1 is there; with 5, fork 10; with 6, fork 11, which is as 5 was.
        again = putall(0, [1, 9, 5, 7, 6, 8])
        found = run(*FOUR, drop(3), collect(), again, again, same(5, 6), look(6), collect(), again, look(7))
        self.assertEqual(found[5:], [[1], [5, 2], [6, 0], [1], [11, 2, 2, 4, 3], [1], [7, 1], [11, 2, 2, 4, 3]])

    def test_number_is_never_used_again(self):
        tops = []
        calls = []
        for version in range(1, 41):
            calls += [put(0, 1, 1), look(version), drop(version), collect()]
        for place, answer in enumerate(run(*calls)):
            if place % 4 == 0:
                self.assertEqual(answer[1], 1)
            if place % 4 == 1:
                tops.append(answer[0])
        self.assertEqual(tops, list(range(1, 41)))

    def test_version_that_came_of_a_dropped_one_goes_on(self):
        found = run(*LAST_ALONE, collect(), put(4, 5, 8), listing(5, 0, 9), diff(4, 5), merge(4, 5), parents(6))
        self.assertEqual(found[8:], [[5, 3], [7, 4, 1, 9, 5, 8, 6, 8, 7, 1], [3, 1] + changes((5, 7, 8)), [6, 0, 0],
                                     [1, 2, 4, 5]])


class MergeOfDropped(unittest.TestCase):
    # 2 and 3 come of 1.
    SIDES = [put(0, 1, 10), put(1, 1, 11), put(1, 2, 12)]

    def test_common_version_that_is_dropped(self):
        found = run(*self.SIDES, drop(1), merge(2, 3), merge(3, 2), nodes(), versions(), delete(0, 0))
        self.assertEqual(found[4:], [[-5], [-5], [4, 4, 4], [4, 3], [4, 0]])

    def test_common_version_that_is_held(self):
        # Put into the base's tree: leaf 11 is there; leaf 12 too, and the fork of both is new.
        found = run(*self.SIDES, merge(2, 3), listing(4, 0, 9))
        self.assertEqual(found[3:], [[4, 1, 0], [3, 2, 1, 11, 2, 12]])

    def test_no_older_version_stands_in(self):
        # 0 is in both lines and held, but the common version is 1.
        self.assertEqual(run(*self.SIDES, drop(1), common(2, 3), merge(2, 3))[4:], [[1], [-5]])

    def test_other_merges_go_on(self):
        # From nothing the leaf of key 2 is put, which is there; key 1 clashes.
        found = run(*self.SIDES, drop(1), collect(), merge(2, 0), merge(2, 2), mergefrom(0, 2, 3), listing(6, 0, 9))
        self.assertEqual(found[4:], [[0], [4, 0, 0], [5, 0, 0], [6, 0, 1, 1, 0, 0, 1, 11, 1, 10], [1, 1, 2, 12]])

    def test_dropped_version_named(self):
        found = run(*self.SIDES, drop(2), merge(2, 3), merge(3, 2), mergefrom(2, 1, 3), mergefrom(1, 2, 3),
                    mergefrom(1, 3, 2), versions())
        self.assertEqual(found[4:], [[-2]] * 5 + [[4, 3]])

    def test_dropped_version_named_goes_ahead_of_the_common_version(self):
        self.assertEqual(run(*self.SIDES, drop(1), drop(2), merge(2, 3), merge(1, 2))[5:], [[-2], [-2]])

    def test_common_version_that_is_one_of_the_two(self):
        found = run(*self.SIDES, put(2, 3, 13), merge(2, 4), drop(2), merge(1, 4), same(4, 6))
        self.assertEqual(found[4:], [[5, 0, 0], [0], [6, 0, 0], [1]])

    def test_base_is_held_while_what_is_between_is_dropped_and_collected(self):
        found = run(put(0, 1, 10), put(1, 1, 11), put(2, 2, 20), put(1, 3, 30), drop(2), collect(), merge(3, 4),
                    listing(5, 0, 9))
        self.assertEqual(found[6][2:], [0])
        self.assertEqual(found[7][1:], [3, 1, 11, 2, 20, 3, 30])


if __name__ == "__main__":
    unittest.main()
