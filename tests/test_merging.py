"""Calls 7 merge and 8 mergefrom, and a version's line."""

import unittest

from sharedtrees.calls import call_merge, call_put
from sharedtrees.store import Store
from tests.helper import GREATEST_KEY, changes, delete, get, listing, merge, mergefrom, nodes, patch, put, run, same
from tests.helper import told


def start(*rows):
    return patch(0, changes(*[(key, None, value) for key, value in rows]))


def conflict(key, base, first, second):
    return [key] + told(base) + told(first) + told(second)


def keys_and_values(answer):
    return answer[2:]


class Merge(unittest.TestCase):
    def test_changes_of_one_side_alone_are_done(self):
        found = run(start((1, 10), (2, 20)), put(1, 1, 11), delete(1, 2), put(2, 3, 30), merge(3, 4), listing(5, 0, 9))
        self.assertEqual(found[4][0], 5)
        self.assertEqual(found[4][2:], [0])
        self.assertEqual(keys_and_values(found[5]), [1, 11, 3, 30])

    def test_same_change_on_both_sides_is_done(self):
        first = changes((1, 10, 11), (2, 20, None), (3, None, 30))
        found = run(start((1, 10), (2, 20)), patch(1, first), put(1, 3, 30), patch(3, first[:10]), merge(2, 4), same(2, 5))
        self.assertEqual(found[4:], [[5, 0, 0], [1]])

    def test_conflicts_leave_the_value_of_the_base(self):
        ours = changes((1, 10, 11), (2, 20, None), (3, 30, 31), (4, None, 41), (5, None, 50))
        theirs = changes((1, 10, 12), (2, 20, 22), (3, 30, None), (4, None, 42), (6, None, 60))
        found = run(start((1, 10), (2, 20), (3, 30)), patch(1, ours), patch(1, theirs), merge(2, 3), listing(4, 0, 9))
        rows = (conflict(1, 10, 11, 12) + conflict(2, 20, None, 22) + conflict(3, 30, 31, None)
                + conflict(4, None, 41, 42))
        self.assertEqual(found[3][2:], [4] + rows)
        self.assertEqual(keys_and_values(found[4]), [1, 10, 2, 20, 3, 30, 5, 50, 6, 60])

    def test_new_nodes(self):
        # Base: fork of bit 0 over keys 0 and 1. a has 0 = 5, b has 1 = 6. In the base's tree 0 = 5 is all there;
        # then 1 = 6 is a leaf that is there and a new fork.
        found = run(start((0, 1), (1, 2)), put(1, 0, 5), put(1, 1, 6), merge(2, 3), nodes())
        self.assertEqual(found, [[1, 3], [2, 2], [3, 2], [4, 1, 0], [8, 8, 8]])

    def test_changes_are_done_in_the_tree_of_the_base_by_rising_keys(self):
        # a has 1 = 6, b has 0 = 5, 1 = 6 by way of 1 first. From the base 0 = 5 comes first: one fork on the way.
        found = run(start((0, 1), (1, 2)), put(1, 1, 6), put(2, 0, 5), mergefrom(1, 3, 3), nodes())
        self.assertEqual(found[3:], [[4, 1, 0], [8, 8, 7]])

    def test_with_itself(self):
        found = run(start((1, 10)), merge(1, 1), same(1, 2), merge(0, 0), merge(2, 1))
        self.assertEqual(found[1:], [[2, 0, 0], [1], [3, 0, 0], [4, 0, 0]])

    def test_version_with_one_of_its_line(self):
        found = run(start((1, 10)), put(1, 1, 11), put(2, 1, 12), merge(1, 3), merge(3, 1), same(3, 4), same(3, 5))
        self.assertEqual(found[3:], [[4, 0, 0], [5, 0, 0], [1], [1]])

    def test_unrelated_versions_are_merged_from_version_0(self):
        found = run(put(0, 1, 10), put(0, 1, 11), put(0, 2, 20), merge(1, 2), merge(1, 3), listing(5, 0, 9), same(0, 4))
        self.assertEqual(found[3], [4, 0, 1] + conflict(1, None, 10, 11))
        self.assertEqual(keys_and_values(found[5]), [1, 10, 2, 20])
        self.assertEqual(found[6], [1])

    def test_common_version_is_the_greatest_of_both_lines(self):
        # 2 and 3 come of 1; 4 and 5 are both merges of 2 and 3, so 3 is common to 6 and 7. From 3 the sides clash in
        # key 1 alone, with 12 as the base's value; from 2 it would be 11, from 1 it would be 10.
        found = run(start((1, 10)), put(1, 1, 11), put(1, 1, 12), merge(2, 3), merge(3, 2), put(4, 1, 14), put(5, 1, 15),
                    merge(6, 7), get(8, 1))
        self.assertEqual(found[7][2:], [1] + conflict(1, 12, 14, 15))
        self.assertEqual(found[8], [1, 12])

    def test_both_parents_of_a_merge_are_in_its_line(self):
        for left, right in ((2, 3), (3, 2)):
            for side in (2, 3):
                found = run(start((1, 10)), put(1, 2, 20), put(1, 3, 30), merge(left, right), put(side, side, 5),
                            put(4, side, 6), merge(5, 6))
                self.assertEqual(found[6][2:], [1] + conflict(side, side * 10, 5, 6))

    def test_base_of_mergefrom_is_no_parent(self):
        # 4 is merged from 3, but comes of 1 and 2 alone: its common version with 5, which comes of 3, is 0.
        found = run(put(0, 1, 10), put(0, 1, 11), put(0, 1, 12), mergefrom(3, 1, 2), put(3, 1, 13), put(4, 1, 14),
                    merge(6, 5))
        self.assertEqual(found[6][2:], [1] + conflict(1, None, 14, 13))

    def test_common_version_that_is_not_held(self):
        store = Store()
        for row in ((0, 1, 10), (1, 1, 11), (1, 1, 12)):
            call_put(store, list(row))
        store.drop(1)
        self.assertEqual(call_merge(store, [2, 3]), [-5])
        self.assertEqual((len(store.versions), store.nodes.made), (4, 3))
        self.assertEqual(call_merge(store, [2, 0]), [4, 0, 0])


class Parents(unittest.TestCase):
    def parents(self, *rows):
        store = Store()
        call_put(store, [0, 1, 1])
        call_put(store, [0, 2, 2])
        for row in rows:
            call_merge(store, list(row))
        return [version.parents for version in store.versions]

    def test_of_a_merge(self):
        self.assertEqual(self.parents((1, 2), (2, 1), (2, 2)), [(), (0,), (0,), (1, 2), (2, 1), (2,)])


class Mergefrom(unittest.TestCase):
    def test_base_decides_what_clashes(self):
        setup = [start((1, 10), (2, 20)), put(1, 1, 11), put(1, 1, 12)]
        found = run(*setup, mergefrom(0, 2, 3), mergefrom(1, 2, 3), mergefrom(2, 2, 3), mergefrom(3, 2, 3))
        self.assertEqual(found[3][2:], [1] + conflict(1, None, 11, 12))
        self.assertEqual(found[4][2:], [1] + conflict(1, 10, 11, 12))
        self.assertEqual(found[5:], [[6, 0, 0], [7, 0, 0]])

    def test_outcome(self):
        setup = [start((1, 10), (2, 20)), put(1, 1, 11), put(1, 1, 12)]
        found = run(*setup, mergefrom(0, 2, 3), mergefrom(2, 2, 3), listing(4, 0, 9), same(3, 5))
        # From nothing, key 2 is put by both alike, and key 1 stays missing; the leaf of 2 is there already.
        self.assertEqual(found[3][:2], [4, 0])
        self.assertEqual(keys_and_values(found[5]), [2, 20])
        self.assertEqual(found[6], [1])

    def test_base_of_one_version_with_itself(self):
        found = run(start((1, 10)), put(1, 1, 11), mergefrom(1, 2, 2), same(2, 3), mergefrom(2, 0, 0), same(0, 4))
        self.assertEqual(found[2:], [[3, 0, 0], [1], [4, 0, 0], [1]])

    def test_order_of_the_sides_in_a_conflict(self):
        found = run(put(0, GREATEST_KEY, 1), put(0, GREATEST_KEY, 2), mergefrom(0, 1, 2), mergefrom(0, 2, 1))
        self.assertEqual(found[2:], [[3, 0, 1] + conflict(GREATEST_KEY, None, 1, 2),
                                     [4, 0, 1] + conflict(GREATEST_KEY, None, 2, 1)])


if __name__ == "__main__":
    unittest.main()
