"""Call 20 putall."""

import unittest

from tests.helper import FOUR, GREATEST_KEY, GREATEST_VALUE, LEAST_VALUE
from tests.helper import collect, get, listing, look, nodes, parents, put, putall, run, same, versions


class Putall(unittest.TestCase):
    def test_as_putting_one_after_another(self):
        # The nodes are those of FOUR, in their order; the forks 3 and 5 are needed by nobody.
        found = run(putall(0, [5, 7, 6, 8, 1, 9, 7, 1]), look(1), nodes(), listing(1, 0, 9), versions(), collect())
        self.assertEqual(found, [[1, 9], [9, 2, 2, 4, 8], [9, 9, 7], [7, 4, 1, 9, 5, 7, 6, 8, 7, 1], [2, 2], [2]])

    def test_order_of_the_pairs_is_kept(self):
        # 7: leaf 1. 1: leaf 2, fork 3. 6: leaf 4, forks 5 and 6. 5: leaf 7, forks 8 and 9.
        found = run(putall(0, [7, 1, 1, 9, 6, 8, 5, 7]), look(1), nodes())
        self.assertEqual(found, [[1, 9], [9, 2, 2, 2, 8], [9, 9, 7]])

    def test_into_a_version_that_has_keys(self):
        # 5 = 8: leaf 10, forks 11 and 12. 0 = 4: leaf 13, forks 14 and 15.
        found = run(*FOUR, putall(4, [5, 8, 0, 4]), listing(5, 0, 9), look(5), parents(5), listing(4, 0, 9))
        self.assertEqual(found[4:], [[5, 6], [9, 5, 0, 4, 1, 9, 5, 8, 6, 8, 7, 1], [15, 2, 2, 14, 11], [1, 1, 4],
                                     [7, 4, 1, 9, 5, 7, 6, 8, 7, 1]])

    def test_empty_list(self):
        self.assertEqual(run(putall(0, []), same(0, 1), parents(1)), [[1, 0], [1], [1, 1, 0]])
        self.assertEqual(run(*FOUR, putall(4, []), same(4, 5), parents(5))[4:], [[5, 0], [1], [1, 1, 4]])

    def test_one_key_twice(self):
        self.assertEqual(run(putall(0, [3, 1, 3, 2]), get(1, 3), look(1), nodes()),
                         [[1, 2], [1, 2], [2, 1, 3, 2], [2, 2, 1]])

    def test_one_key_twice_with_one_value(self):
        self.assertEqual(run(putall(0, [3, 1, 3, 1]), look(1)), [[1, 1], [1, 1, 3, 1]])

    def test_one_key_there_and_back(self):
        # The nodes with 7 = 2 are made on the way: a leaf and three forks.
        self.assertEqual(run(*FOUR, putall(4, [7, 2, 7, 1]), same(4, 5), nodes())[4:], [[5, 4], [1], [13, 13, 9]])

    def test_values_that_are_there_already(self):
        self.assertEqual(run(*FOUR, putall(4, [7, 1, 1, 9]), same(4, 5), nodes())[4:], [[5, 0], [1], [9, 9, 9]])

    def test_edges_of_keys_and_values(self):
        found = run(putall(0, [GREATEST_KEY, LEAST_VALUE, 0, GREATEST_VALUE]), get(1, 0), get(1, GREATEST_KEY), look(1))
        self.assertEqual(found, [[1, 3], [1, GREATEST_VALUE], [1, LEAST_VALUE], [3, 2, 39, 2, 1]])

    def test_hundred_pairs(self):
        pairs = [number for key in range(100) for number in (key, -key)]
        found = run(putall(0, pairs), listing(1, 0, 99))
        self.assertEqual(found[1], [199, 100] + pairs)

    def test_same_nodes_as_by_single_puts(self):
        keys = [9, 3, 2 ** 30, 3, 77, GREATEST_KEY, 0, 2 ** 30 + 1]
        singles = [put(place, key, place) for place, key in enumerate(keys)]
        pairs = [number for place, key in enumerate(keys) for number in (key, place)]
        one = run(*singles, look(8))
        other = run(putall(0, pairs), look(1))
        self.assertEqual(one[8], other[1])
        self.assertEqual(sum(answer[1] for answer in one[:8]), other[0][1])


class Wrong(unittest.TestCase):
    def check(self, pairs, answer):
        found = run(*FOUR, putall(4, pairs), nodes(), versions(), look(4), putall(4, [5, 8]), look(5))
        self.assertEqual(found[4:], [[answer], [9, 9, 9], [5, 5], [9, 2, 2, 4, 8], [5, 3], [12, 2, 2, 4, 11]])

    def test_odd_length(self):
        for pairs in ([1], [1, 2, 3], [1, 2] * 99 + [1]):
            self.check(pairs, -1)

    def test_too_long(self):
        for pairs in ([1, 2] * 101, [1, 2] * 100 + [1], [1, 2] * 500):
            self.check(pairs, -1)

    def test_keys_and_values_out_of_range(self):
        for pair in ([-1, 1], [GREATEST_KEY + 1, 1], [1, LEAST_VALUE - 1], [1, GREATEST_VALUE + 1], [-2 ** 63, 1],
                     [2 ** 63 - 1, 1], [1, -2 ** 63], [1, 2 ** 63 - 1], [-5, 5]):
            self.check(pair, -1)
            self.check([2, 3] + pair, -1)
            self.check(pair + [2, 3], -1)
            self.check([2, 3] * 99 + pair, -1)

    def test_keys_and_values_are_not_taken_for_one_another(self):
        # In range as a value but not as a key, and as a value alone.
        self.check([-7, 1], -1)
        self.assertEqual(run(putall(0, [1, -7]), get(1, 1))[1], [1, -7])
        self.assertEqual(run(putall(0, [1, GREATEST_KEY + 1]), get(1, 1))[1], [1, GREATEST_KEY + 1])


if __name__ == "__main__":
    unittest.main()
