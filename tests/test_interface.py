"""The list handed in, the list given back, and that nothing is kept from one time to the next."""

import unittest

from sharedtrees.versions import answers
from tests.helper import FOUR, changes, collect, common, delete, diff, drop, from_key, get, inverse, join, listing, look
from tests.helper import merge, mergefrom, nodes, nth, parents, patch, put, putall, run, same, shared, size, split, summed
from tests.helper import versions

ALL = FOUR + [delete(4, 6), get(5, 7), listing(5, 0, 9), diff(1, 5), patch(1, changes((5, 7, 8))),
              join(changes((1, 2, 3)), changes((1, 3, 4))), merge(4, 6), mergefrom(0, 4, 6), same(7, 8), nodes(),
              shared(7, 8), put(0, -1, 1), patch(0, [1, 2, 3]), patch(0, changes((1, 1, 2))), get(99, 1), versions(),
              parents(7), common(7, 8), size(4), from_key(4, 2), nth(4, 3), summed(4, 0, 9), look(4),
              inverse(changes((1, 2, None))), putall(1, [5, 8, 9, 9]), drop(9), get(9, 5), collect(), nodes(), drop(0),
              parents(9), putall(0, [1]), put(0, 9, 9), look(10)]


def refuse(*arguments):
    raise AssertionError("what is handed in was changed")


class Guarded(list):
    append = clear = extend = insert = pop = remove = reverse = sort = refuse
    __setitem__ = __delitem__ = __iadd__ = __imul__ = refuse


def flat(calls):
    return [number for call in calls for number in call]


class Interface(unittest.TestCase):
    def test_each_answer_stands_behind_its_count(self):
        calls = flat([put(0, 5, 7), get(1, 5), get(1, 6), same(0, 1), nodes(), put(7, 1, 1), listing(1, 0, 9)])
        self.assertEqual(answers(calls), [2, 1, 1, 2, 1, 7, 2, 0, 0, 1, 0, 3, 1, 1, 1, 1, -2, 4, 1, 1, 5, 7])

    def test_every_call_is_in_the_list(self):
        self.assertEqual(sorted({call[0] for call in ALL}), list(range(24)))

    def test_whole_list_by_hand(self):
        # Before the merge there are 12 nodes. From leaf 5 = 7 it puts 1, 5, 6 and 7: one new fork, one, two, two.
        # The mergefrom puts 1, 6 and 7: none, a fork, a fork. Five of these eight forks are needed by nobody behind.
        # The putall finds its first leaf, and makes a leaf and a fork, which go with the five when it is dropped.
        self.assertEqual(run(*ALL), [
            [1, 1], [2, 2], [3, 2], [4, 4],
            [5, 2],
            [1, 1],
            [5, 3, 1, 9, 5, 7, 7, 1],
            [1, 2] + changes((1, None, 9), (7, None, 1)),
            [6, 1],
            [1] + changes((1, 2, 4)),
            [7, 6, 0],
            [8, 2, 1, 5, 0, 0, 1, 7, 1, 8],
            [0],
            [20, 20, 15],
            [7, 5, 4],
            [-1], [-1], [-1000], [-2],
            [9, 9],
            [1, 2, 4, 6],
            [6],
            [4, 4],
            [1, 5, 7], [1, 7, 1],
            [0, 25],
            [9, 2, 2, 4, 8],
            [1] + changes((1, None, 2)),
            [9, 2], [0], [-2],
            [7],
            [15, 22, 15],
            [-5], [0, 1, 1], [-1],
            [10, 1], [23, 1, 9, 9],
        ])

    def test_kinds(self):
        found = answers(flat(ALL))
        self.assertIs(list, found.__class__)
        self.assertEqual([number for number in found if number.__class__ is not int], [])

    def test_one_answer_for_each_call(self):
        self.assertEqual(len(split(answers(flat(ALL)))), len(ALL))

    def test_list_handed_in_is_as_it_was(self):
        calls = flat(ALL)
        answers(calls)
        self.assertEqual(calls, flat(ALL))

    def test_list_handed_in_is_not_changed_for_a_while_either(self):
        self.assertEqual(answers(Guarded(flat(ALL))), answers(flat(ALL)))

    def test_second_time_is_as_the_first(self):
        calls = flat(ALL)
        first = answers(calls)
        copy = list(first)
        answers(flat(FOUR * 3))
        second = answers(calls)
        self.assertEqual(second, copy)
        second.clear()
        self.assertEqual(first, copy)
        self.assertEqual(answers(calls), copy)

    def test_object_is_new_each_time(self):
        for turn in range(3):
            self.assertEqual(run(nodes(), get(1, 5), put(0, 5, 7)), [[0, 0, 0], [-2], [1, 1]])

    def test_two_hundred_calls(self):
        self.assertEqual(run(*[same(0, 0)] * 200), [[1]] * 200)

    def test_each_call_alone(self):
        alone = [put(0, 0, 0), delete(0, 0), get(0, 0), listing(0, 0, 0), diff(0, 0), patch(0, []), join([], []),
                 merge(0, 0), mergefrom(0, 0, 0), same(0, 0), nodes(), shared(0, 0), drop(0), collect(), size(0),
                 from_key(0, 0), nth(0, 0), summed(0, 0, 0), parents(0), common(0, 0), putall(0, []), inverse([]),
                 look(0), versions()]
        expected = [[1, 1], [1, 0], [0, 0], [0, 0], [0, 0], [1, 0], [0], [1, 0, 0], [1, 0, 0], [1], [0, 0, 0], [0, 0, 0],
                    [-5], [0], [0, 0], [0, 0, 0], [0, 0, 0], [0, 0], [1, 0], [0], [1, 0], [0], [0, 0], [1, 1]]
        self.assertEqual([run(call) for call in alone], [[answer] for answer in expected])

    def test_longest_lists_are_read_to_their_end(self):
        # Lists that are out of range are as long as the interface lets them be; the calls behind them are found.
        found = run(putall(0, [0] * 1000), inverse([0] * 1000), patch(0, [0] * 1000), join([0] * 545, [0] * 545),
                    putall(0, [1, 2]), get(1, 1))
        self.assertEqual(found, [[-1], [-1], [-1], [-1], [1, 1], [1, 2]])

    def test_lists_that_look_like_calls_are_not_taken_for_calls(self):
        self.assertEqual(run(putall(0, [12, 1, 13, 23]), inverse([23, 0, 0, 1, 13]), versions()),
                         [[1, 3], [1, 23, 1, 13, 0, 0], [2, 2]])

    def test_long_lists_of_differences(self):
        d = changes(*[(key, None, key) for key in range(100)])
        self.assertEqual(run(*[join(d, [])] * 31), [[100] + d] * 31)


if __name__ == "__main__":
    unittest.main()
