"""At most 200 versions (-3), at most 4000 nodes ever made (-4), looked at last."""

import unittest

from sharedtrees.calls import call_put
from sharedtrees.store import Store
from tests.helper import changes, climbing, delete, get, listing, merge, mergefrom, nodes, patch, put, run, same

# 199 versions beside version 0, and no node.
FULL = [delete(0, 0)] * 199

# Each call makes 79 nodes, a leaf and 39 times a leaf and a fork: 3950 together, in versions 1 to 50.
MANY = [patch(0, climbing(40, value)) for value in range(50)]


# An odd number of nodes more, in version 51: a leaf, then a leaf and a fork each.
def more(count):
    return patch(0, climbing((count + 1) // 2, 50))


class Versions(unittest.TestCase):
    def test_two_hundredth_version_is_made(self):
        self.assertEqual(run(*FULL)[-1], [199, 0])

    def test_no_more_than_two_hundred(self):
        for call in (put(0, 1, 1), put(199, 1, 1), delete(0, 1), patch(0, []), patch(199, changes((1, None, 1))),
                     merge(1, 2), merge(1, 1), mergefrom(0, 1, 2)):
            self.assertEqual(run(*FULL, call)[-1], [-3])

    def test_reading_goes_on(self):
        for call, answer in ((get(199, 1), [0, 0]), (same(0, 199), [1]), (nodes(), [0, 0, 0])):
            self.assertEqual(run(*FULL, call)[-1], answer)

    def test_refused_version_leaves_nothing(self):
        store = Store()
        for turn in range(199):
            call_put(store, [0, 1, 1])
        self.assertEqual(call_put(store, [0, 2, 2]), [-3])
        self.assertEqual((len(store.versions), store.nodes.made, len(store.nodes.kept)), (200, 1, 1))
        self.assertEqual(call_put(store, [0, 2, 2]), [-3])

    def test_looked_at_behind_the_own_refusals(self):
        self.assertEqual(run(*FULL, patch(0, changes((1, 1, 1))))[-1], [-5])
        self.assertEqual(run(*FULL, patch(0, changes((1, 1, 2))))[-1], [-1000])
        self.assertEqual(run(*FULL, put(0, -1, 1))[-1], [-1])
        self.assertEqual(run(*FULL, put(200, 1, 1))[-1], [-1])

    def test_looked_at_ahead_of_the_nodes(self):
        calls = MANY + [more(49), put(0, 3, 3)] + [delete(0, 0)] * 147
        self.assertEqual(len(calls), 199)
        self.assertEqual(run(*calls, put(0, 3, 4))[-1], [-3])
        self.assertEqual(run(*calls[:-1], put(0, 3, 4))[-1], [-4])


class NodesMade(unittest.TestCase):
    def test_four_thousand_are_made_and_no_more(self):
        found = run(*MANY, more(49), put(0, 3, 3), nodes(), put(0, 3, 4), nodes(), put(0, 3, 3), delete(1, 1), nodes())
        self.assertEqual(found[49:52], [[50, 79], [51, 49], [52, 1]])
        self.assertEqual(found[52:], [[4000, 4000, 4000], [-4], [4000, 4000, 4000], [53, 0], [-4], [4000, 4000, 4000]])

    def test_each_call_that_makes_nodes_is_refused(self):
        full = MANY + [more(49), put(0, 3, 3)]
        for call in (put(0, 3, 4), put(1, 1, 77), delete(1, 1), patch(0, changes((3, None, 4))), merge(1, 52),
                     mergefrom(0, 1, 52)):
            found = run(*full, call, nodes(), delete(0, 0))
            self.assertEqual(found[52:], [[-4], [4000, 4000, 4000], [53, 0]], call)

    def test_calls_that_make_none_are_answered(self):
        full = MANY + [more(49), put(0, 3, 3)]
        found = run(*full, delete(52, 3), patch(52, []), merge(1, 1), mergefrom(0, 1, 1), patch(0, changes((3, None, 3))))
        self.assertEqual(found[52:], [[53, 0], [54, 0], [55, 0, 0], [56, 0, 0], [57, 0]])

    def test_nodes_made_on_the_way_are_counted(self):
        # Both values of a two-key version changed: 4 nodes are made, of which one is needed by nobody behind.
        both = patch(51, changes((1, 50, 60), (2, 50, 60)))
        pair = MANY + [more(3)]
        self.assertEqual(run(*pair, nodes())[-1], [3953, 3953, 3953])
        fits = pair + [patch(0, climbing(22, 51)), both, nodes()]
        self.assertEqual(run(*fits)[51:], [[52, 43], [53, 4], [4000, 4000, 3999]])
        bursts = pair + [patch(0, climbing(22, 51)), put(0, 3, 3), both, nodes(), get(51, 1), put(0, 3, 4), nodes()]
        self.assertEqual(run(*bursts)[51:], [[52, 43], [53, 1], [-4], [3997, 3997, 3997], [1, 50], [54, 1],
                                             [3998, 3998, 3998]])

    def test_refused_write_is_undone_whole(self):
        # 40 changes from 3999 nodes: the first fits, the second does not; nothing of them stays.
        setup = MANY + [more(49)]
        found = run(*setup, patch(0, climbing(40, 51)), nodes(), get(51, 1), put(0, 1, 51), nodes(), listing(52, 0, 9))
        self.assertEqual(found[51:], [[-4], [3999, 3999, 3999], [1, 50], [52, 1], [4000, 4000, 4000], [1, 1, 1, 51]])

    def test_refused_merge_is_undone_whole(self):
        # Merging 51 (key 1 = 50) with 52 (key 2 = 60) from nothing makes the fork of both alone.
        setup = MANY + [put(0, 1, 50), put(0, 2, 60), patch(0, climbing(24, 51))]
        self.assertEqual(run(*setup, nodes())[-1], [3999, 3999, 3999])
        self.assertEqual(run(*setup, merge(51, 52), nodes())[53:], [[54, 1, 0], [4000, 4000, 4000]])
        found = run(*setup, put(0, 3, 3), merge(51, 52), mergefrom(0, 52, 51), nodes(), delete(0, 0))
        self.assertEqual(found[53:], [[54, 1], [-4], [-4], [4000, 4000, 4000], [55, 0]])

    def test_looked_at_behind_the_own_refusals(self):
        full = MANY + [more(49), put(0, 3, 3)]
        found = run(*full, patch(0, changes((1, None, 99), (2, 2, 2))), patch(0, changes((1, None, 99), (2, 1, 2))),
                    put(53, 1, 99), put(0, -1, 99))
        self.assertEqual(found[52:], [[-5], [-1001], [-2], [-1]])


if __name__ == "__main__":
    unittest.main()
