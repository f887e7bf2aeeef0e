"""Calls 2 get, 3 list, 9 same, 10 nodes and 11 shared."""

import unittest

from tests.helper import FOUR, GREATEST_KEY, changes, delete, get, listing, nodes, patch, put, run, same, shared


class Get(unittest.TestCase):
    def test_value_or_none(self):
        found = run(*FOUR, get(4, 5), get(4, 6), get(4, 1), get(4, 7), get(4, 4), get(3, 7), get(0, 5), get(1, 5))
        self.assertEqual(found[4:], [[1, 7], [1, 8], [1, 9], [1, 1], [0, 0], [0, 0], [0, 0], [1, 7]])

    def test_value_of_nought_is_not_a_missing_one(self):
        self.assertEqual(run(put(0, 0, 0), get(1, 0), get(1, 1))[1:], [[1, 0], [0, 0]])

    def test_value_below_nought(self):
        self.assertEqual(run(put(0, 3, -4), get(1, 3))[1], [1, -4])


class Listing(unittest.TestCase):
    def listed(self, version, lo, hi):
        return run(*FOUR, listing(version, lo, hi))[4]

    def test_all_keys(self):
        self.assertEqual(self.listed(4, 0, GREATEST_KEY), [7, 4, 1, 9, 5, 7, 6, 8, 7, 1])

    def test_goes_only_where_keys_may_lie(self):
        # Forks of bits 2, 1 and 0, then the leaf.
        self.assertEqual(self.listed(4, 6, 6), [4, 1, 6, 8])

    def test_leaf_out_of_range_counts(self):
        self.assertEqual(self.listed(4, 2, 3), [2, 0])
        self.assertEqual(self.listed(1, 6, 9), [1, 0])

    def test_fork_wholly_out_of_range_counts_one(self):
        # Version 2 is a fork of bit 1 over keys 4 to 7.
        self.assertEqual(self.listed(2, 0, 3), [1, 0])
        self.assertEqual(self.listed(2, 8, 20), [1, 0])

    def test_edges_of_a_fork(self):
        self.assertEqual(self.listed(2, 0, 4), [2, 0])
        self.assertEqual(self.listed(2, 4, 5), [2, 1, 5, 7])
        self.assertEqual(self.listed(2, 5, 6), [3, 2, 5, 7, 6, 8])
        self.assertEqual(self.listed(2, 6, 6), [2, 1, 6, 8])
        self.assertEqual(self.listed(2, 7, 7), [2, 0])

    def test_lo_above_hi(self):
        self.assertEqual(self.listed(2, 6, 5), [1, 0])
        self.assertEqual(self.listed(2, 5, 4), [2, 0])
        self.assertEqual(self.listed(2, GREATEST_KEY, 0), [1, 0])
        self.assertEqual(self.listed(1, 5, 4), [1, 0])
        self.assertEqual(self.listed(0, 5, 4), [0, 0])

    def test_nothing(self):
        self.assertEqual(self.listed(0, 0, GREATEST_KEY), [0, 0])

    def test_greatest_key(self):
        found = run(put(0, GREATEST_KEY, 1), put(1, 0, 2), listing(2, GREATEST_KEY, GREATEST_KEY), listing(2, 0, 0))
        self.assertEqual(found[2:], [[2, 1, GREATEST_KEY, 1], [2, 1, 0, 2]])


class Same(unittest.TestCase):
    def test_one_version_equal_maps_and_unlike_maps(self):
        found = run(put(0, 1, 1), put(0, 1, 1), put(0, 1, 2), same(1, 1), same(1, 2), same(1, 3), same(0, 1), same(0, 0))
        self.assertEqual(found[3:], [[1], [1], [0], [0], [1]])

    def test_same_keys_with_other_values(self):
        self.assertEqual(run(put(0, 1, 1), put(1, 2, 2), put(2, 1, 2), put(3, 2, 1), same(2, 4))[4], [0])


class CountedNodes(unittest.TestCase):
    def test_at_the_beginning(self):
        self.assertEqual(run(nodes()), [[0, 0, 0]])

    def test_each_node_once(self):
        self.assertEqual(run(*FOUR, nodes())[4], [9, 9, 9])

    def test_node_made_on_the_way_is_needed_by_nobody(self):
        # Leaf 1 = 3, fork of it and the old leaf 2; then leaf 2 = 4, and the fork that stays.
        found = run(put(0, 1, 1), put(1, 2, 2), patch(2, changes((1, 1, 3), (2, 2, 4))), nodes(), shared(2, 3))
        self.assertEqual(found, [[1, 1], [2, 2], [3, 4], [7, 7, 6], [3, 3, 0]])


class Shared(unittest.TestCase):
    def test_counts(self):
        # Version 3 has the fork over 5 and 6, which version 4 has not; leaves 5, 6 and 1 are in both.
        found = run(*FOUR, shared(3, 4), shared(4, 3), shared(2, 3), shared(4, 4), shared(0, 4), shared(0, 0))
        self.assertEqual(found[4:], [[5, 7, 3], [7, 5, 3], [3, 5, 3], [7, 7, 7], [0, 7, 0], [0, 0, 0]])

    def test_side_left_over_is_shared_whole(self):
        self.assertEqual(run(*FOUR, delete(4, 1), shared(4, 5))[5], [7, 5, 5])


if __name__ == "__main__":
    unittest.main()
