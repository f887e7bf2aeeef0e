"""Many lists of calls, made from fixed seeds, answered as the plain model answers them."""

import random
import unittest

from tests.helper import GREATEST_KEY, GREATEST_VALUE, LEAST_VALUE, TAKES, Model
from tests.helper import changes, collect, common, delete, diff, drop, from_key, get, inverse, join, listing, look
from tests.helper import map_difference, merge, mergefrom, nodes, nth, parents, patch, put, putall, run, same, shared
from tests.helper import size, summed, versions

SMALL = list(range(12))
WIDE = [0, 1, 2 ** 20, 2 ** 20 + 1, 2 ** 39, 2 ** 39 + 2 ** 20, 2 ** 40 - 1, 2 ** 40 - 2, 5, 6, 7]
ODD = (-1, 200, 10000, GREATEST_KEY, GREATEST_KEY + 1, GREATEST_VALUE, GREATEST_VALUE + 1, LEAST_VALUE, LEAST_VALUE - 1,
       2 ** 63 - 1, -2 ** 63)
# Writes and drops come more often than what only reads.
NUMBERS = [0, 0, 0, 0, 1, 1, 5, 5, 7, 8, 12, 12, 12, 13, 20, 20] + list(range(24))


def some_rows(source, keys, mapping):
    rows = []
    for key in sorted(source.sample(keys, source.randrange(len(keys)))):
        before = mapping.get(key) if source.randrange(30) else source.choice((None, 0, 1))
        behind = source.choice((None, 0, 1, 2))
        if before != behind or source.randrange(30) == 0:
            rows.append((key, before, behind))
    return rows


def some_pairs(source, keys):
    return [number for turn in range(source.randrange(8)) for number in (source.choice(keys), source.choice((0, 1, 2)))]


# An argument is now and then a version that is dropped or not there.
def some_version(source, model):
    if source.randrange(15) == 0:
        return source.randrange(len(model.maps) + 1)
    return source.choice([version for version, held in enumerate(model.held) if held])


def some_call(source, keys, model, number):
    one, two, three = [some_version(source, model) for turn in range(3)]
    key, other = source.choice(keys), source.choice(keys)
    value = source.choice((0, 1, 2))
    near, far, last = [model.maps[min(version, len(model.maps) - 1)] for version in (one, two, three)]
    rows = changes(*some_rows(source, keys, near))
    second = changes(*map_difference(far, last if source.randrange(2) else {}))
    made = (put(one, key, value), delete(one, key), get(one, key), listing(one, key, other), diff(one, two),
            patch(one, rows), join(changes(*map_difference(near, far)), second), merge(one, two),
            mergefrom(one, two, three), same(one, two), nodes(), shared(one, two), drop(one), collect(), size(one),
            from_key(one, key), nth(one, source.randrange(len(keys))), summed(one, key, other), parents(two),
            common(one, two), putall(one, some_pairs(source, keys)), inverse(rows), look(one), versions())
    return made[number]


# Any number in the call but its own and the counts of its lists.
def spoiled(source, call):
    places = []
    place = 1
    for letter in TAKES[call[0]]:
        if letter in "dp":
            places.extend(range(place + 1, place + 1 + call[place]))
            place += call[place]
        else:
            places.append(place)
        place += 1
    call = list(call)
    if places:
        call[source.choice(places)] = source.choice(ODD)
    return call


class AgainstTheModel(unittest.TestCase):
    def check(self, seed, keys, count, numbers):
        source = random.Random(seed)
        model = Model()
        calls = []
        expected = []
        for turn in range(count):
            call = some_call(source, keys, model, source.choice(numbers))
            if source.randrange(25) == 0:
                call = spoiled(source, call)
            calls.append(call)
            expected.append(model.answer(call))
        self.assertEqual(run(*calls), expected, seed)
        return model

    def test_first_twelve_calls_with_few_small_keys(self):
        for seed in range(40):
            self.check(seed, SMALL, 60, list(range(12)))

    def test_all_calls_with_few_small_keys(self):
        for seed in range(60):
            self.check(seed, SMALL, 60, NUMBERS)

    def test_all_calls_with_keys_far_apart(self):
        for seed in range(60):
            self.check(seed, WIDE, 60, NUMBERS)

    def test_long_lists(self):
        for seed in range(12):
            model = self.check(seed, SMALL + WIDE[2:8], 200, NUMBERS)
            self.assertGreater(model.made, len(model.numbers))

    def test_long_lists_up_to_the_greatest_number_of_nodes(self):
        keys = [2 ** place for place in range(40)] + [2 ** 40 - 2 ** place for place in range(40)]
        for seed in range(2):
            model = self.check(seed, keys, 200, [1, 5, 5, 5, 5, 5, 7, 12, 13, 20, 20, 20, 22, 10])
            self.assertGreater(model.made, 3950)


if __name__ == "__main__":
    unittest.main()
