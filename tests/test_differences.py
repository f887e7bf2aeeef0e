"""Calls 4 diff, 5 patch, 6 join and 21 inverse."""

import unittest

from tests.helper import FOUR, GREATEST_KEY, GREATEST_VALUE, LEAST_VALUE
from tests.helper import changes, delete, diff, get, inverse, join, listing, nodes, patch, put, run, same, versions


class Diff(unittest.TestCase):
    def test_goes_only_where_the_trees_are_unlike(self):
        # Forks of bits 2 and 1 in both, then a leaf beside a fork: three looked at.
        self.assertEqual(run(*FOUR, diff(3, 4))[4], [3, 1] + changes((7, None, 1)))
        self.assertEqual(run(*FOUR, diff(4, 3))[4], [3, 1] + changes((7, 1, None)))

    def test_forks_of_unlike_bits_count_one(self):
        self.assertEqual(run(*FOUR, diff(2, 3))[4], [1, 1] + changes((1, None, 9)))

    def test_forks_of_one_bit_over_unlike_keys_count_one(self):
        found = run(put(0, 0, 1), put(1, 1, 1), put(0, 2, 1), put(3, 3, 1), diff(2, 4), diff(4, 2))
        rows = changes((0, 1, None), (1, 1, None), (2, None, 1), (3, None, 1))
        back = changes((0, None, 1), (1, None, 1), (2, 1, None), (3, 1, None))
        self.assertEqual(found[4:], [[1, 4] + rows, [1, 4] + back])

    def test_forks_of_one_bit_over_the_same_block_are_gone_into(self):
        found = run(put(0, 4, 1), put(1, 6, 1), put(0, 5, 1), put(3, 7, 1), diff(2, 4))
        self.assertEqual(found[4], [3, 4] + changes((4, 1, None), (5, None, 1), (6, 1, None), (7, None, 1)))

    def test_leaves(self):
        found = run(put(0, 4, 1), put(0, 4, 2), put(0, 3, 1), diff(1, 2), diff(1, 3))
        self.assertEqual(found[3:], [[1, 1] + changes((4, 1, 2)), [1, 2] + changes((3, None, 1), (4, 1, None))])

    def test_unlike_forks_leave_out_what_is_alike(self):
        found = run(put(0, 5, 7), put(1, 6, 8), put(2, 1, 9), put(3, 6, 4), diff(2, 4))
        self.assertEqual(found[4], [1, 2] + changes((1, None, 9), (6, 8, 4)))

    def test_nothing_and_one_version(self):
        found = run(*FOUR, diff(0, 2), diff(2, 0), diff(4, 4), diff(0, 0), put(3, 7, 1), diff(4, 5))
        self.assertEqual(found[4:], [[1, 2] + changes((5, None, 7), (6, None, 8)),
                                     [1, 2] + changes((5, 7, None), (6, 8, None)),
                                     [0, 0], [0, 0], [5, 0], [0, 0]])


class Patch(unittest.TestCase):
    def test_puts_changes_and_takes_out(self):
        d = changes((1, 9, None), (2, None, 3), (6, 8, 4))
        found = run(*FOUR, patch(4, d), listing(5, 0, 9), listing(4, 0, 9), diff(4, 5))
        self.assertEqual(found[5][1:], [4, 2, 3, 5, 7, 6, 4, 7, 1])
        self.assertEqual(found[6], [7, 4, 1, 9, 5, 7, 6, 8, 7, 1])
        self.assertEqual(found[7][1:], [3] + d)

    def test_new_nodes_made_on_the_way_count(self):
        # Out with 1: fork 8 is left. In with 2: a leaf and a fork. 6 becomes 4: a leaf and three forks.
        d = changes((1, 9, None), (2, None, 3), (6, 8, 4))
        self.assertEqual(run(*FOUR, patch(4, d), nodes())[4:], [[5, 6], [15, 15, 14]])

    def test_difference_of_two_versions_leads_from_one_to_the_other(self):
        found = run(*FOUR, patch(2, changes((1, None, 9), (7, None, 1))), same(4, 5))
        self.assertEqual(found[4:], [[5, 0], [1]])

    def test_empty_difference(self):
        self.assertEqual(run(*FOUR, patch(4, []), same(4, 5))[4:], [[5, 0], [1]])
        self.assertEqual(run(patch(0, []), same(0, 1)), [[1, 0], [1]])

    def test_least_and_greatest_key_and_value(self):
        d = changes((0, None, LEAST_VALUE), (GREATEST_KEY, None, GREATEST_VALUE))
        e = changes((0, LEAST_VALUE, GREATEST_VALUE), (GREATEST_KEY, GREATEST_VALUE, LEAST_VALUE))
        found = run(patch(0, d), patch(1, e), get(2, 0), get(2, GREATEST_KEY))
        self.assertEqual(found, [[1, 3], [2, 4], [1, GREATEST_VALUE], [1, LEAST_VALUE]])

    def test_hundred_changes(self):
        d = changes(*[(key, None, key + 1) for key in range(100)])
        found = run(patch(0, d), listing(1, 0, 99))
        self.assertEqual(found[1][2:], [number for key in range(100) for number in (key, key + 1)])

    def test_no_difference(self):
        for rows in ([(2, None, 1), (1, None, 1)], [(1, None, 1), (1, 1, 2)], [(1, None, None)], [(5, 7, 7)],
                     [(1, 9, 2), (5, 7, 7)], [(0, None, 0), (3, None, None)]):
            found = run(*FOUR, patch(4, changes(*rows)), nodes(), delete(4, 0))
            self.assertEqual(found[4:], [[-5], [9, 9, 9], [5, 0]])

    def test_first_change_that_does_not_fit(self):
        for rows, place in (([(5, 8, 1)], 0), ([(5, None, 1)], 0), ([(4, 0, 1)], 0),
                            ([(1, 9, 2), (4, None, 0), (5, 1, 2), (6, 1, 2)], 2), ([(1, 9, 2), (6, 8, 1), (8, 0, 1)], 2)):
            found = run(*FOUR, patch(4, changes(*rows)), nodes(), delete(4, 0))
            self.assertEqual(found[4:], [[-1000 - place], [9, 9, 9], [5, 0]])

    def test_last_of_a_hundred_changes_that_does_not_fit(self):
        d = changes(*[(key, None, 1) for key in range(99)], (99, 1, 2))
        self.assertEqual(run(patch(0, d), nodes()), [[-1099], [0, 0, 0]])

    def test_no_difference_goes_ahead_of_what_does_not_fit(self):
        self.assertEqual(run(patch(0, changes((1, 1, 2), (1, 2, 3)))), [[-5]])


class Join(unittest.TestCase):
    def test_by_rising_keys(self):
        d = changes((1, None, 5), (4, 2, None))
        e = changes((0, 1, 2), (2, None, 3), (9, 9, None))
        rows = changes((0, 1, 2), (1, None, 5), (2, None, 3), (4, 2, None), (9, 9, None))
        self.assertEqual(run(join(d, e), join(e, d)), [[5] + rows, [5] + rows])

    def test_changes_of_one_key_become_one(self):
        found = run(join(changes((1, 2, 3)), changes((1, 3, 4))), join(changes((1, None, 3)), changes((1, 3, 4))),
                    join(changes((1, 2, 3)), changes((1, 3, None))), join(changes((1, 2, None)), changes((1, None, 4))))
        self.assertEqual(found, [[1] + changes((1, 2, 4)), [1] + changes((1, None, 4)), [1] + changes((1, 2, None)),
                                 [1] + changes((1, 2, 4))])

    def test_there_and_back_is_no_change(self):
        found = run(join(changes((1, 2, 3), (5, 1, 0)), changes((1, 3, 2))),
                    join(changes((1, None, 3)), changes((1, 3, None))), join(changes((1, 3, None)), changes((1, None, 3))))
        self.assertEqual(found, [[1] + changes((5, 1, 0)), [0], [0]])

    def test_empty_ones(self):
        d = changes((1, 2, 3))
        self.assertEqual(run(join([], []), join(d, []), join([], d)), [[0], [1] + d, [1] + d])

    def test_least_and_greatest(self):
        d = changes((0, LEAST_VALUE, GREATEST_VALUE))
        e = changes((GREATEST_KEY, GREATEST_VALUE, LEAST_VALUE))
        self.assertEqual(run(join(d, e)), [[2] + d + e])

    def test_two_hundred_changes(self):
        d = changes(*[(2 * key, None, key) for key in range(100)])
        e = changes(*[(2 * key + 1, key, None) for key in range(100)])
        rows = [row for key in range(100) for row in ((2 * key, None, key), (2 * key + 1, key, None))]
        self.assertEqual(run(join(d, e)), [[200] + changes(*rows)])

    def test_no_difference(self):
        good = changes((1, 2, 3))
        for rows in ([(2, 1, 2), (1, 1, 2)], [(1, 1, 2), (1, 2, 3)], [(1, 4, 4)], [(1, None, None)]):
            bad = changes(*rows)
            self.assertEqual(run(join(good, bad), join(bad, good), join(bad, []), nodes()), [[-5], [-5], [-5], [0, 0, 0]])

    def test_not_joinable(self):
        found = run(join(changes((1, 2, 3)), changes((1, 2, 3))), join(changes((1, 2, None)), changes((1, 0, 3))),
                    join(changes((1, 2, 0)), changes((1, None, 3))),
                    join(changes((0, 1, 2), (1, 2, 3)), changes((0, 2, 1), (1, 4, 3))))
        self.assertEqual(found, [[-6], [-6], [-6], [-6]])

    def test_no_difference_goes_ahead_of_not_joinable(self):
        self.assertEqual(run(join(changes((1, 2, 3)), changes((1, 4, 5), (1, 5, 6)))), [[-5]])


class Inverse(unittest.TestCase):
    def test_before_and_behind_are_exchanged(self):
        d = changes((1, 2, 3), (4, None, 5), (6, 7, None), (8, 0, -9))
        back = changes((1, 3, 2), (4, 5, None), (6, None, 7), (8, -9, 0))
        self.assertEqual(run(inverse(d), inverse(back)), [[4] + back, [4] + d])

    def test_value_of_nought_is_not_a_missing_one(self):
        self.assertEqual(run(inverse(changes((1, 0, None)))), [[1] + changes((1, None, 0))])

    def test_empty_one(self):
        self.assertEqual(run(inverse([])), [[0]])

    def test_least_and_greatest(self):
        d = changes((0, LEAST_VALUE, GREATEST_VALUE), (GREATEST_KEY, None, LEAST_VALUE))
        back = changes((0, GREATEST_VALUE, LEAST_VALUE), (GREATEST_KEY, LEAST_VALUE, None))
        self.assertEqual(run(inverse(d)), [[2] + back])

    def test_hundred_changes(self):
        d = changes(*[(key, key, None) for key in range(100)])
        self.assertEqual(run(inverse(d)), [[100] + changes(*[(key, None, key) for key in range(100)])])

    def test_leads_back(self):
        there = changes((1, None, 9), (7, None, 1))
        back = run(inverse(there))[0][1:]
        self.assertEqual(run(*FOUR, patch(4, back), same(2, 5), diff(4, 2))[4:], [[5, 0], [1], [1, 2] + back])

    def test_makes_neither_a_version_nor_a_node(self):
        self.assertEqual(run(inverse(changes((1, None, 2))), versions(), nodes())[1:], [[1, 1], [0, 0, 0]])

    def test_no_difference(self):
        for rows in ([(2, 1, 2), (1, 1, 2)], [(1, 1, 2), (1, 2, 3)], [(1, 4, 4)], [(1, None, None)],
                     [(0, 1, 2), (3, 5, 5)]):
            self.assertEqual(run(inverse(changes(*rows)), versions(), nodes()), [[-5], [1, 1], [0, 0, 0]])


if __name__ == "__main__":
    unittest.main()
