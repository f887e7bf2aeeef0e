"""The list handed in, the list given back, and that nothing is kept from one time to the next."""

import unittest

from sharedtrees.versions import UnknownCall, answers
from tests.helper import FOUR, changes, delete, diff, get, join, listing, merge, mergefrom, nodes, patch, put, run
from tests.helper import same, shared, split

ALL = FOUR + [delete(4, 6), get(5, 7), listing(5, 0, 9), diff(1, 5), patch(1, changes((5, 7, 8))),
              join(changes((1, 2, 3)), changes((1, 3, 4))), merge(4, 6), mergefrom(0, 4, 6), same(7, 8), nodes(),
              shared(7, 8), put(0, -1, 1), patch(0, [1, 2, 3]), patch(0, changes((1, 1, 2))), get(99, 1)]


def refuse(*arguments):
    raise AssertionError("what is handed in was changed")


class Guarded(list):
    append = clear = extend = insert = pop = remove = reverse = sort = refuse
    __setitem__ = __delitem__ = __iadd__ = __imul__ = refuse


def flat(calls):
    return [number for call in calls for number in call]


class Interface(unittest.TestCase):
    def test_each_answer_stands_behind_its_count(self):
        calls = flat([put(0, 5, 7), get(1, 5), get(1, 6), same(0, 1), nodes(), put(7, 1, 1), listing(1, 0, 9)])
        self.assertEqual(answers(calls), [2, 1, 1, 2, 1, 7, 2, 0, 0, 1, 0, 3, 1, 1, 1, 1, -2, 4, 1, 1, 5, 7])

    def test_whole_list_by_hand(self):
        # Before the merge there are 12 nodes. From leaf 5 = 7 it puts 1, 5, 6 and 7: one new fork, one, two, two.
        # The mergefrom puts 1, 6 and 7: none, a fork, a fork. Five of these eight forks are needed by nobody behind.
        self.assertEqual(run(*ALL), [
            [1, 1], [2, 2], [3, 2], [4, 4],
            [5, 2],
            [1, 1],
            [5, 3, 1, 9, 5, 7, 7, 1],
            [1, 2] + changes((1, None, 9), (7, None, 1)),
            [6, 1],
            [1] + changes((1, 2, 4)),
            [7, 6, 0],
            [8, 2, 1, 5, 0, 0, 1, 7, 1, 8],
            [0],
            [20, 20, 15],
            [7, 5, 4],
            [-1], [-1], [-1000], [-2],
        ])

    def test_kinds(self):
        found = answers(flat(ALL))
        self.assertIs(list, found.__class__)
        self.assertEqual([number for number in found if number.__class__ is not int], [])

    def test_one_answer_for_each_call(self):
        self.assertEqual(len(split(answers(flat(ALL)))), len(ALL))

    def test_list_handed_in_is_as_it_was(self):
        calls = flat(ALL)
        answers(calls)
        self.assertEqual(calls, flat(ALL))

    def test_list_handed_in_is_not_changed_for_a_while_either(self):
        self.assertEqual(answers(Guarded(flat(ALL))), answers(flat(ALL)))

    def test_second_time_is_as_the_first(self):
        calls = flat(ALL)
        first = answers(calls)
        copy = list(first)
        answers(flat(FOUR * 3))
        second = answers(calls)
        self.assertEqual(second, copy)
        second.clear()
        self.assertEqual(first, copy)
        self.assertEqual(answers(calls), copy)

    def test_object_is_new_each_time(self):
        for turn in range(3):
            self.assertEqual(run(nodes(), get(1, 5), put(0, 5, 7)), [[0, 0, 0], [-2], [1, 1]])

    def test_call_that_is_not_written(self):
        for number in (-1, 12, 23):
            self.assertRaises(UnknownCall, answers, [number, 0, 0])

    def test_two_hundred_calls(self):
        self.assertEqual(run(*[same(0, 0)] * 200), [[1]] * 200)

    def test_long_lists_of_differences(self):
        d = changes(*[(key, None, key) for key in range(100)])
        self.assertEqual(run(*[join(d, [])] * 31), [[100] + d] * 31)


if __name__ == "__main__":
    unittest.main()
