"""At most 200 versions (-3), at most 4000 nodes ever made (-4), looked at last."""

import unittest

from sharedtrees.calls import call_collect, call_drop, call_put, call_putall, call_versions
from sharedtrees.store import Store
from tests.helper import changes, climbing, collect, delete, drop, get, listing, look, merge, mergefrom, nodes, patch, put
from tests.helper import putall, run, same, versions

# 199 versions beside version 0, and no node.
FULL = [delete(0, 0)] * 199

# Each call makes 79 nodes, a leaf and 39 times a leaf and a fork: 3950 together, in versions 1 to 50.
MANY = [patch(0, climbing(40, value)) for value in range(50)]


# An odd number of nodes more, in version 51: a leaf, then a leaf and a fork each.
def more(count):
    return patch(0, climbing((count + 1) // 2, 50))


class Versions(unittest.TestCase):
    def test_two_hundredth_version_is_made(self):
        self.assertEqual(run(*FULL)[-1], [199, 0])

    def test_no_more_than_two_hundred(self):
        for call in (put(0, 1, 1), put(199, 1, 1), delete(0, 1), patch(0, []), patch(199, changes((1, None, 1))),
                     merge(1, 2), merge(1, 1), mergefrom(0, 1, 2), putall(0, []), putall(199, [1, 1])):
            self.assertEqual(run(*FULL, call)[-1], [-3])

    def test_reading_goes_on(self):
        for call, answer in ((get(199, 1), [0, 0]), (same(0, 199), [1]), (nodes(), [0, 0, 0]), (look(199), [0, 0]),
                             (drop(199), [0]), (collect(), [0]), (versions(), [200, 200])):
            self.assertEqual(run(*FULL, call)[-1], answer)

    def test_refused_version_leaves_nothing(self):
        store = Store()
        for turn in range(199):
            call_put(store, [0, 1, 1])
        self.assertEqual(call_put(store, [0, 2, 2]), [-3])
        self.assertEqual((len(store.versions), store.nodes.made, len(store.nodes.kept)), (200, 1, 1))
        self.assertEqual(call_put(store, [0, 2, 2]), [-3])
        self.assertEqual(call_putall(store, [0, [2, 2, 3, 3]]), [-3])
        self.assertEqual((len(store.versions), store.nodes.made, len(store.nodes.kept)), (200, 1, 1))

    def test_dropped_versions_count(self):
        store = Store()
        for turn in range(199):
            call_putall(store, [0, [1, 1]])
        for version in range(1, 200):
            call_drop(store, [version])
        self.assertEqual(call_collect(store, []), [1])
        self.assertEqual(call_putall(store, [0, []]), [-3])
        self.assertEqual(call_versions(store, []), [200, 1])

    def test_looked_at_behind_the_own_refusals(self):
        self.assertEqual(run(*FULL, patch(0, changes((1, 1, 1))))[-1], [-5])
        self.assertEqual(run(*FULL, patch(0, changes((1, 1, 2))))[-1], [-1000])
        self.assertEqual(run(*FULL, put(0, -1, 1))[-1], [-1])
        self.assertEqual(run(*FULL, put(200, 1, 1))[-1], [-1])
        self.assertEqual(run(*FULL, putall(0, [1]))[-1], [-1])
        self.assertEqual(run(*FULL[:-2], drop(1), delete(0, 0), putall(1, [1, 1]))[-1], [-2])

    def test_looked_at_ahead_of_the_nodes(self):
        calls = MANY + [more(49), put(0, 3, 3)] + [delete(0, 0)] * 147
        self.assertEqual(len(calls), 199)
        for call in (put(0, 3, 4), putall(0, [3, 4])):
            self.assertEqual(run(*calls, call)[-1], [-3])
            self.assertEqual(run(*calls[:-1], call)[-1], [-4])


class NodesMade(unittest.TestCase):
    def test_four_thousand_are_made_and_no_more(self):
        found = run(*MANY, more(49), put(0, 3, 3), nodes(), put(0, 3, 4), nodes(), put(0, 3, 3), delete(1, 1), nodes())
        self.assertEqual(found[49:52], [[50, 79], [51, 49], [52, 1]])
        self.assertEqual(found[52:], [[4000, 4000, 4000], [-4], [4000, 4000, 4000], [53, 0], [-4], [4000, 4000, 4000]])

    def test_each_call_that_makes_nodes_is_refused(self):
        full = MANY + [more(49), put(0, 3, 3)]
        for call in (put(0, 3, 4), put(1, 1, 77), delete(1, 1), patch(0, changes((3, None, 4))), merge(1, 52),
                     mergefrom(0, 1, 52), putall(0, [3, 4]), putall(0, [3, 3, 3, 4]), putall(52, [3, 4, 3, 3])):
            found = run(*full, call, nodes(), delete(0, 0))
            self.assertEqual(found[52:], [[-4], [4000, 4000, 4000], [53, 0]], call)

    def test_calls_that_make_none_are_answered(self):
        full = MANY + [more(49), put(0, 3, 3)]
        found = run(*full, delete(52, 3), patch(52, []), merge(1, 1), mergefrom(0, 1, 1), patch(0, changes((3, None, 3))),
                    putall(0, []), putall(0, [3, 3, 3, 3]))
        self.assertEqual(found[52:], [[53, 0], [54, 0], [55, 0, 0], [56, 0, 0], [57, 0], [58, 0], [59, 0]])

    def test_nodes_made_on_the_way_are_counted(self):
        # Both values of a two-key version changed: 4 nodes are made, of which one is needed by nobody behind.
        both = patch(51, changes((1, 50, 60), (2, 50, 60)))
        pair = MANY + [more(3)]
        self.assertEqual(run(*pair, nodes())[-1], [3953, 3953, 3953])
        fits = pair + [patch(0, climbing(22, 51)), both, nodes()]
        self.assertEqual(run(*fits)[51:], [[52, 43], [53, 4], [4000, 4000, 3999]])
        bursts = pair + [patch(0, climbing(22, 51)), put(0, 3, 3), both, nodes(), get(51, 1), put(0, 3, 4), nodes()]
        self.assertEqual(run(*bursts)[51:], [[52, 43], [53, 1], [-4], [3997, 3997, 3997], [1, 50], [54, 1],
                                             [3998, 3998, 3998]])

    def test_refused_write_is_undone_whole(self):
        # 40 changes from 3999 nodes: the first fits, the second does not; nothing of them stays.
        setup = MANY + [more(49)]
        found = run(*setup, patch(0, climbing(40, 51)), nodes(), get(51, 1), put(0, 1, 51), nodes(), listing(52, 0, 9))
        self.assertEqual(found[51:], [[-4], [3999, 3999, 3999], [1, 50], [52, 1], [4000, 4000, 4000], [1, 1, 1, 51]])

    def test_refused_merge_is_undone_whole(self):
        # Merging 51 (key 1 = 50) with 52 (key 2 = 60) from nothing makes the fork of both alone.
        setup = MANY + [put(0, 1, 50), put(0, 2, 60), patch(0, climbing(24, 51))]
        self.assertEqual(run(*setup, nodes())[-1], [3999, 3999, 3999])
        self.assertEqual(run(*setup, merge(51, 52), nodes())[53:], [[54, 1, 0], [4000, 4000, 4000]])
        found = run(*setup, put(0, 3, 3), merge(51, 52), mergefrom(0, 52, 51), nodes(), delete(0, 0))
        self.assertEqual(found[53:], [[54, 1], [-4], [-4], [4000, 4000, 4000], [55, 0]])

    def test_looked_at_behind_the_own_refusals(self):
        full = MANY + [more(49), put(0, 3, 3)]
        found = run(*full, patch(0, changes((1, None, 99), (2, 2, 2))), patch(0, changes((1, None, 99), (2, 1, 2))),
                    put(53, 1, 99), put(0, -1, 99), putall(53, [1, 99]), putall(0, [1, 99, 1]))
        self.assertEqual(found[52:], [[-5], [-1001], [-2], [-1], [-2], [-1]])

    def test_looked_at_behind_a_common_version_that_is_dropped(self):
        # 2 and 3 come of 1, with five nodes; merged they would have one fork more.
        setup = [put(0, 1, 110), put(1, 2, 120), put(1, 4, 140)] + MANY + [more(45)]
        found = run(*setup, nodes(), merge(2, 3), drop(1), merge(2, 3), nodes(), versions())
        self.assertEqual(found[54:], [[4000, 4000, 4000], [-4], [0], [-5], [4000, 4000, 4000], [55, 54]])


class PairsOnTheWay(unittest.TestCase):
    # 3999 nodes: one more may be made.
    ALMOST = MANY + [more(49)]

    def test_node_needed_by_nobody_behind_counts(self):
        found = run(*self.ALMOST, putall(0, [3, 3, 3, 4]), nodes(), versions(), putall(0, [3, 4]), nodes(), look(52))
        self.assertEqual(found[51:], [[-4], [3999, 3999, 3999], [52, 52], [52, 1], [4000, 4000, 4000], [4000, 1, 3, 4]])

    def test_refused_pairs_are_undone_whole(self):
        pairs = [number for key in range(100) for number in (key, -1)]
        found = run(*self.ALMOST, putall(0, pairs), nodes(), get(51, 1), putall(0, [0, -1]), nodes(), look(52))
        self.assertEqual(found[51:], [[-4], [3999, 3999, 3999], [1, 50], [52, 1], [4000, 4000, 4000], [4000, 1, 0, -1]])


class ThrownAway(unittest.TestCase):
    # 4000 nodes in versions 1 to 52; the 3950 of the first fifty versions are thrown away.
    FREED = MANY + [more(49), put(0, 3, 3)] + [drop(version) for version in range(1, 51)] + [collect()]

    def test_still_count_among_those_ever_made(self):
        found = run(*self.FREED, nodes(), putall(0, [3, 4]), put(0, 3, 4), putall(0, [3, 3]), nodes())
        self.assertEqual(found[102:], [[3950], [50, 4000, 50], [-4], [-4], [53, 0], [50, 4000, 50]])

    def test_node_like_one_thrown_away_is_one_more(self):
        # The leaf of key 1 with 0 was in version 1, that with 50 is in version 51.
        found = run(*self.FREED, putall(0, [1, 0]), putall(0, [1, 50]), put(0, 1, 0), patch(0, changes((1, None, 0))))
        self.assertEqual(found[103:], [[-4], [53, 0], [-4], [-4]])

    def test_nodes_stay_whole_behind_a_refusal(self):
        found = run(*self.FREED, putall(51, [1, 0]), get(51, 1), look(52), delete(52, 3), collect(), nodes(), versions())
        self.assertEqual(found[103:], [[-4], [1, 50], [4000, 1, 3, 3], [53, 0], [0], [50, 4000, 50], [54, 4]])

    def test_last_node_that_may_be_made_behind_a_collect(self):
        calls = MANY + [more(49)] + [drop(version) for version in range(1, 52)]
        found = run(*calls, collect(), nodes(), putall(0, [1, 0, 1, 1]), putall(0, [1, 0]), look(52), putall(0, [1, 1]))
        self.assertEqual(found[102:], [[3999], [0, 3999, 0], [-4], [52, 1], [4000, 1, 1, 0], [-4]])


if __name__ == "__main__":
    unittest.main()
