"""Many lists of calls, made from fixed seeds, answered as the plain model answers them."""

import random
import unittest

from tests.helper import Model, changes, delete, diff, get, join, listing, map_difference, merge, mergefrom, nodes
from tests.helper import patch, put, run, same, shared

SMALL = list(range(12))
WIDE = [0, 1, 2 ** 20, 2 ** 20 + 1, 2 ** 39, 2 ** 39 + 2 ** 20, 2 ** 40 - 1, 2 ** 40 - 2, 5, 6, 7]


def some_rows(source, keys, mapping):
    rows = []
    for key in sorted(source.sample(keys, source.randrange(len(keys)))):
        before = mapping.get(key) if source.randrange(30) else source.choice((None, 0, 1))
        behind = source.choice((None, 0, 1, 2))
        if before != behind or source.randrange(30) == 0:
            rows.append((key, before, behind))
    return rows


# An argument is now and then a version that is not there.
def some_version(source, model):
    return source.randrange(len(model.maps) + (source.randrange(20) == 0))


def some_call(source, keys, model):
    one, two, three = [some_version(source, model) for turn in range(3)]
    key, other = source.choice(keys), source.choice(keys)
    value = source.choice((0, 1, 2))
    near = model.maps[min(one, len(model.maps) - 1)]
    kind = source.choice((0, 0, 0, 1, 1, 2, 3, 3, 4, 4, 5, 5, 6, 7, 7, 8, 9, 10, 11))
    if kind == 5:
        return patch(one, changes(*some_rows(source, keys, near)))
    if kind == 6:
        far = model.maps[min(two, len(model.maps) - 1)]
        last = model.maps[min(three, len(model.maps) - 1)] if source.randrange(2) else {}
        return join(changes(*map_difference(near, far)), changes(*map_difference(far, last)))
    made = {0: put(one, key, value), 1: delete(one, key), 2: get(one, key), 3: listing(one, key, other),
            4: diff(one, two), 7: merge(one, two), 8: mergefrom(one, two, three), 9: same(one, two), 10: nodes(),
            11: shared(one, two)}
    return made[kind]


class AgainstTheModel(unittest.TestCase):
    def check(self, seed, keys, count):
        source = random.Random(seed)
        model = Model()
        calls = []
        expected = []
        for turn in range(count):
            call = some_call(source, keys, model)
            calls.append(call)
            expected.append(model.answer(call))
        self.assertEqual(run(*calls), expected, seed)

    def test_few_small_keys(self):
        for seed in range(60):
            self.check(seed, SMALL, 60)

    def test_keys_far_apart(self):
        for seed in range(60):
            self.check(seed, WIDE, 60)

    def test_long_lists(self):
        for seed in range(4):
            self.check(seed, SMALL + WIDE[2:8], 200)


if __name__ == "__main__":
    unittest.main()
