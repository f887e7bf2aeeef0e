"""Calls 0 put and 1 del, and the order in which nodes are kept."""

import unittest

from sharedtrees.nodes import Nodes
from sharedtrees.trees import put_value, take_out
from tests.helper import FOUR, GREATEST_KEY, GREATEST_VALUE, LEAST_VALUE
from tests.helper import delete, get, listing, nodes, put, run, same


class Put(unittest.TestCase):
    def test_new_nodes_are_the_leaf_and_the_forks_above_it(self):
        self.assertEqual(run(*FOUR), [[1, 1], [2, 2], [3, 2], [4, 4]])

    def test_value_that_is_there_already_makes_a_version_without_a_node(self):
        self.assertEqual(run(*FOUR, put(4, 7, 1), same(4, 5))[4:], [[5, 0], [1]])

    def test_other_value_makes_the_path_anew(self):
        self.assertEqual(run(*FOUR, put(4, 7, 2), get(4, 7), get(5, 7))[4:], [[5, 4], [1, 1], [1, 2]])

    def test_path_near_the_top_is_short(self):
        self.assertEqual(run(*FOUR, put(4, 1, 2))[4:], [[5, 2]])

    def test_nodes_made_before_are_found_again(self):
        self.assertEqual(run(*FOUR, put(3, 7, 1), same(4, 5))[4:], [[5, 0], [1]])

    def test_same_map_by_another_way_is_the_same_tree(self):
        # Leaves 7, 1, 6, 5 are all there; forks are new where no version had them.
        other = [put(0, 7, 1), put(5, 1, 9), put(6, 6, 8), put(7, 5, 7)]
        self.assertEqual(run(*FOUR, *other, same(4, 8))[4:], [[5, 0], [6, 1], [7, 1], [8, 0], [1]])

    def test_old_version_stays_as_it_was(self):
        self.assertEqual(run(*FOUR, listing(2, 0, GREATEST_KEY))[4], [3, 2, 5, 7, 6, 8])

    def test_least_and_greatest_key_and_value(self):
        found = run(put(0, 0, LEAST_VALUE), put(1, GREATEST_KEY, GREATEST_VALUE), get(2, 0), get(2, GREATEST_KEY),
                    listing(2, 0, GREATEST_KEY))
        self.assertEqual(found, [[1, 1], [2, 2], [1, LEAST_VALUE], [1, GREATEST_VALUE],
                                 [3, 2, 0, LEAST_VALUE, GREATEST_KEY, GREATEST_VALUE]])

    def test_deepest_tree(self):
        # Key 0 and all powers of two: 41 leaves on a path of 40 forks. Changing key 0 makes them all anew.
        powers = [put(place, 2 ** place if place < 40 else 0, 1) for place in range(41)]
        self.assertEqual(run(*powers, put(41, 0, 2), nodes())[41:], [[42, 41], [161, 161, 161]])


class Delete(unittest.TestCase):
    def test_forks_above_are_made_anew_and_the_lowest_goes(self):
        found = run(*FOUR, delete(4, 6), listing(5, 0, 9), get(4, 6))
        self.assertEqual(found[4:], [[5, 2], [5, 3, 1, 9, 5, 7, 7, 1], [1, 8]])

    def test_taking_out_a_side_of_the_top_leaves_the_other_side(self):
        self.assertEqual(run(*FOUR, delete(4, 1), listing(5, 0, 9))[4:], [[5, 0], [5, 3, 5, 7, 6, 8, 7, 1]])

    def test_taking_out_the_last_put_gives_the_tree_before(self):
        self.assertEqual(run(*FOUR, delete(4, 7), same(3, 5))[4:], [[5, 0], [1]])

    def test_only_key(self):
        self.assertEqual(run(put(0, 5, 7), delete(1, 5), same(0, 2), get(2, 5)), [[1, 1], [2, 0], [1], [0, 0]])

    def test_key_that_is_not_there(self):
        for key in (0, 2, 3, 4, 8, 2 ** 39, GREATEST_KEY):
            self.assertEqual(run(*FOUR, delete(4, key), same(4, 5))[4:], [[5, 0], [1]])
        self.assertEqual(run(put(0, 5, 7), delete(1, 4), same(1, 2))[1:], [[2, 0], [1]])

    def test_out_of_nothing(self):
        self.assertEqual(run(delete(0, 5), same(0, 1), nodes()), [[1, 0], [1], [0, 0, 0]])

    def test_least_and_greatest_key(self):
        found = run(put(0, 0, 1), put(1, GREATEST_KEY, 2), delete(2, 0), delete(2, GREATEST_KEY), get(3, GREATEST_KEY),
                    same(1, 4))
        self.assertEqual(found[2:], [[3, 0], [4, 0], [1, 2], [1]])


class Order(unittest.TestCase):
    def shapes(self, kept):
        return [kept.node(number).shape for number in range(1, kept.made + 1)]

    def grown(self):
        kept = Nodes()
        top = 0
        for key, value in ((5, 7), (6, 8), (1, 9), (7, 1)):
            top = put_value(kept, top, key, value)
        return kept, top

    def test_put_keeps_the_leaf_first_and_then_the_forks_upwards(self):
        kept, top = self.grown()
        self.assertEqual(top, 9)
        self.assertEqual(self.shapes(kept), [
            (5, 7), (6, 8), (1, 1, 2), (1, 9), (2, 4, 3), (7, 1), (0, 2, 6), (1, 1, 7), (2, 4, 8)])

    def test_take_out_keeps_the_forks_upwards(self):
        kept, top = self.grown()
        self.assertEqual(take_out(kept, top, 6), 11)
        self.assertEqual(self.shapes(kept)[9:], [(1, 1, 6), (2, 4, 10)])

    def test_undone_nodes_leave_no_trace(self):
        kept, top = self.grown()
        take_out(kept, top, 6)
        kept.undo_since(9)
        self.assertEqual((kept.made, len(kept.kept), len(kept.numbers)), (9, 9, 9))
        self.assertEqual(put_value(kept, top, 1, 3), 11)
        self.assertEqual(self.shapes(kept)[9:], [(1, 3), (2, 10, 8)])


if __name__ == "__main__":
    unittest.main()
