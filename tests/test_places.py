"""Calls 14 size, 15 from, 16 nth and 17 sum."""

import unittest

from tests.helper import FOUR, GREATEST_KEY, GREATEST_VALUE, LEAST_VALUE
from tests.helper import delete, from_key, nth, put, putall, run, size, summed

EDGES = [put(0, 0, LEAST_VALUE), put(1, GREATEST_KEY, GREATEST_VALUE)]


def behind_four(*calls):
    return run(*FOUR, *calls)[4:]


class Size(unittest.TestCase):
    def test_nothing_leaf_and_forks(self):
        self.assertEqual(behind_four(size(0), size(1), size(2), size(3), size(4)),
                         [[0, 0], [1, 1], [2, 2], [3, 3], [4, 4]])

    def test_depth_is_of_the_deeper_side(self):
        # 0 to 3 are two forks under one; beside them 4 adds a fork, and so does 8.
        pairs = [0, 1, 1, 1, 2, 1, 3, 1]
        self.assertEqual(run(putall(0, pairs), size(1), put(1, 4, 1), size(2), put(2, 8, 1), size(3)),
                         [[1, 8], [4, 3], [2, 2], [5, 4], [3, 2], [6, 5]])
        self.assertEqual(run(putall(0, [0, 1, 14, 1, 15, 1]), size(1), putall(0, [0, 1, 1, 1, 15, 1]), size(2))[1::2],
                         [[3, 3], [3, 3]])

    def test_taken_out_keys_do_not_count(self):
        self.assertEqual(behind_four(delete(4, 7), size(5), delete(5, 2), size(6), delete(1, 5), size(7)),
                         [[5, 0], [3, 3], [6, 0], [3, 3], [7, 0], [0, 0]])

    def test_value_changed_does_not_count_twice(self):
        self.assertEqual(behind_four(put(4, 7, 2), size(5))[1], [4, 4])

    def test_deepest_tree(self):
        powers = [number for place in range(40) for number in (2 ** place, 1)]
        self.assertEqual(run(putall(0, powers), size(1), put(1, 0, 1), size(2))[1::2], [[40, 40], [41, 41]])

    def test_hundred_keys(self):
        pairs = [number for key in range(100) for number in (key, 1)]
        self.assertEqual(run(putall(0, pairs), size(1))[1], [100, 8])

    def test_edges_of_the_keys(self):
        self.assertEqual(run(*EDGES, size(2))[2], [2, 2])


class From(unittest.TestCase):
    def test_key_itself_or_the_next_above(self):
        for key, answer in ((0, [1, 1, 9]), (1, [1, 1, 9]), (2, [1, 5, 7]), (4, [1, 5, 7]), (5, [1, 5, 7]),
                            (6, [1, 6, 8]), (7, [1, 7, 1])):
            self.assertEqual(behind_four(from_key(4, key)), [answer], key)

    def test_above_all_keys(self):
        self.assertEqual(behind_four(from_key(4, 8), from_key(4, GREATEST_KEY), from_key(1, 6)), [[0, 0, 0]] * 3)

    def test_nothing(self):
        self.assertEqual(run(from_key(0, 0), from_key(0, GREATEST_KEY)), [[0, 0, 0]] * 2)

    def test_edges_of_the_keys(self):
        found = run(*EDGES, from_key(2, 0), from_key(2, 1), from_key(2, GREATEST_KEY), from_key(1, 1))
        self.assertEqual(found[2:], [[1, 0, LEAST_VALUE], [1, GREATEST_KEY, GREATEST_VALUE],
                                     [1, GREATEST_KEY, GREATEST_VALUE], [0, 0, 0]])

    def test_key_and_value_of_nought(self):
        self.assertEqual(run(put(0, 0, 0), from_key(1, 0))[1], [1, 0, 0])

    def test_next_key_lies_beyond_the_fork(self):
        found = run(putall(0, [0, 10, 1, 11, 2, 12, 2 ** 30, 30]), from_key(1, 3), from_key(1, 2 ** 29), from_key(1, 2))
        self.assertEqual(found[1:], [[1, 2 ** 30, 30], [1, 2 ** 30, 30], [1, 2, 12]])


class Nth(unittest.TestCase):
    def test_by_rising_keys_from_nought(self):
        self.assertEqual(behind_four(nth(4, 0), nth(4, 1), nth(4, 2), nth(4, 3)),
                         [[1, 1, 9], [1, 5, 7], [1, 6, 8], [1, 7, 1]])

    def test_at_the_number_of_keys_and_above(self):
        self.assertEqual(behind_four(nth(4, 4), nth(4, 5), nth(4, 9999), nth(1, 1), nth(0, 0), nth(0, 9999)),
                         [[0, 0, 0]] * 6)

    def test_leaf(self):
        self.assertEqual(behind_four(nth(1, 0)), [[1, 5, 7]])

    def test_edges_of_the_keys(self):
        self.assertEqual(run(*EDGES, nth(2, 0), nth(2, 1), nth(2, 2))[2:],
                         [[1, 0, LEAST_VALUE], [1, GREATEST_KEY, GREATEST_VALUE], [0, 0, 0]])

    def test_places_out_of_range(self):
        self.assertEqual(behind_four(nth(4, -1), nth(4, 10000), nth(5, 10000), nth(5, 0)), [[-1], [-1], [-1], [-2]])

    def test_hundred_keys(self):
        pairs = [number for key in range(99, -1, -1) for number in (key * 3, key)]
        found = run(putall(0, pairs), *[nth(1, place) for place in range(101)])
        self.assertEqual(found[1:], [[1, key * 3, key] for key in range(100)] + [[0, 0, 0]])


class Sum(unittest.TestCase):
    def test_keys_from_lo_to_hi(self):
        self.assertEqual(behind_four(summed(4, 0, GREATEST_KEY), summed(4, 1, 7), summed(4, 2, 6), summed(4, 5, 5),
                                     summed(4, 6, 7), summed(4, 0, 1)),
                         [[0, 25], [0, 25], [0, 15], [0, 7], [0, 9], [0, 9]])

    def test_no_key_in_range(self):
        self.assertEqual(behind_four(summed(4, 2, 4), summed(4, 8, GREATEST_KEY), summed(0, 0, GREATEST_KEY),
                                     summed(1, 0, 4)), [[0, 0]] * 4)

    def test_lo_above_hi(self):
        self.assertEqual(behind_four(summed(4, 7, 1), summed(4, 6, 5), summed(1, 6, 5), summed(4, GREATEST_KEY, 0)),
                         [[0, 0]] * 4)

    def test_below_nought(self):
        self.assertEqual(run(putall(0, [1, -5, 2, 3]), summed(1, 0, 9), summed(1, 1, 1), summed(1, 2, 2))[1:],
                         [[0, -2], [0, -5], [0, 3]])

    def test_edges(self):
        self.assertEqual(run(*EDGES, summed(2, 0, GREATEST_KEY), summed(2, 0, 0), summed(2, GREATEST_KEY, GREATEST_KEY),
                             summed(2, 1, GREATEST_KEY - 1))[2:],
                         [[0, 0], [0, LEAST_VALUE], [0, GREATEST_VALUE], [0, 0]])

    def test_above_the_numbers_handed_in(self):
        for value in (GREATEST_VALUE, LEAST_VALUE):
            first = [number for key in range(100) for number in (key, value)]
            more = [number for key in range(1000, 1100) for number in (key, value)]
            found = run(putall(0, first), putall(1, more), summed(1, 0, 99), summed(2, 0, GREATEST_KEY))
            self.assertEqual(found[2:], [[0, 100 * value], [0, 200 * value]])


if __name__ == "__main__":
    unittest.main()
