"""What each call answers, once its arguments are in range and the versions it names are there."""

from sharedtrees.differences import compare, difference, first_misfit, inverted, is_difference, joined, merged
from sharedtrees.differences import writes_of
from sharedtrees.forms import read_changes, read_pairs, tell_changes, tell_conflicts, tell_node, tell_pair_at
from sharedtrees.forms import tell_pairs, tell_value
from sharedtrees.limits import BASE_NOT_HELD, FIRST_MISFIT, GREATEST_KEY, NO_DIFFERENCE, NOT_DROPPABLE, NOT_JOINABLE
from sharedtrees.nodes import NOTHING
from sharedtrees.trees import depth_of, gather_range, pairs_between, value_at


def call_put(store, arguments):
    version = arguments[0]
    return store.make_version(store.top_of(version), [(arguments[1], arguments[2])], (version,))


def call_delete(store, arguments):
    version = arguments[0]
    return store.make_version(store.top_of(version), [(arguments[1], None)], (version,))


def call_get(store, arguments):
    return tell_value(value_at(store.nodes, store.top_of(arguments[0]), arguments[1]))


def call_list(store, arguments):
    pairs = []
    count = gather_range(store.nodes, store.top_of(arguments[0]), arguments[1], arguments[2], pairs)
    return [count] + tell_pairs(pairs)


def call_diff(store, arguments):
    changes = []
    count = compare(store.nodes, store.top_of(arguments[0]), store.top_of(arguments[1]), changes)
    return [count] + tell_changes(changes)


def call_patch(store, arguments):
    version = arguments[0]
    changes = read_changes(arguments[1])
    if not is_difference(changes):
        return [NO_DIFFERENCE]
    misfit = first_misfit(store.nodes, store.top_of(version), changes)
    if misfit is not None:
        return [FIRST_MISFIT - misfit]
    return store.make_version(store.top_of(version), writes_of(changes), (version,))


def call_join(store, arguments):
    first = read_changes(arguments[0])
    second = read_changes(arguments[1])
    if not is_difference(first) or not is_difference(second):
        return [NO_DIFFERENCE]
    changes = joined(first, second)
    return [NOT_JOINABLE] if changes is None else tell_changes(changes)


def merge_from(store, base, first, second):
    top = store.top_of(base)
    merging = merged(
        difference(store.nodes, top, store.top_of(first)),
        difference(store.nodes, top, store.top_of(second)),
    )
    parents = (first,) if first == second else (first, second)
    answer = store.make_version(top, merging.writes, parents)
    if answer[0] < 0:
        return answer
    return answer + tell_conflicts(merging.conflicts)


def call_merge(store, arguments):
    base = store.common_of(arguments[0], arguments[1])
    if not store.is_held(base):
        return [BASE_NOT_HELD]
    return merge_from(store, base, arguments[0], arguments[1])


def call_mergefrom(store, arguments):
    return merge_from(store, arguments[0], arguments[1], arguments[2])


def call_same(store, arguments):
    return [1 if store.top_of(arguments[0]) == store.top_of(arguments[1]) else 0]


def call_nodes(store, arguments):
    needed = store.needed_by(store.held_versions())
    return [len(store.nodes.kept), store.nodes.made, len(needed)]


def call_shared(store, arguments):
    first = store.needed_by([arguments[0]])
    second = store.needed_by([arguments[1]])
    both = [number for number in first if number in second]
    return [len(first), len(second), len(both)]


def call_drop(store, arguments):
    if arguments[0] == 0:
        return [NOT_DROPPABLE]
    store.drop(arguments[0])
    return [0]


def call_collect(store, arguments):
    return [store.collect()]


def call_size(store, arguments):
    top = store.top_of(arguments[0])
    return [len(pairs_between(store.nodes, top, 0, GREATEST_KEY)), depth_of(store.nodes, top)]


def call_from(store, arguments):
    return tell_pair_at(pairs_between(store.nodes, store.top_of(arguments[0]), arguments[1], GREATEST_KEY), 0)


def call_nth(store, arguments):
    return tell_pair_at(pairs_between(store.nodes, store.top_of(arguments[0]), 0, GREATEST_KEY), arguments[1])


# The 0 ahead keeps a sum below 0 from being taken for a refusal.
def call_sum(store, arguments):
    pairs = pairs_between(store.nodes, store.top_of(arguments[0]), arguments[1], arguments[2])
    return [0, sum([pair[1] for pair in pairs])]


def call_parents(store, arguments):
    parents = store.parents_of(arguments[0])
    return [1 if store.is_held(arguments[0]) else 0, len(parents)] + list(parents)


def call_common(store, arguments):
    return [store.common_of(arguments[0], arguments[1])]


def call_putall(store, arguments):
    version = arguments[0]
    return store.make_version(store.top_of(version), read_pairs(arguments[1]), (version,))


def call_inverse(store, arguments):
    changes = read_changes(arguments[0])
    if not is_difference(changes):
        return [NO_DIFFERENCE]
    return tell_changes(inverted(changes))


def call_look(store, arguments):
    top = store.top_of(arguments[0])
    if top == NOTHING:
        return [NOTHING, 0]
    return [top] + tell_node(store.nodes.node(top))


def call_versions(store, arguments):
    return [len(store.versions), len(store.held_versions())]


# The two rows go by a call's number: what it does, and its form (see sharedtrees.forms).
CALLS = (
    call_put, call_delete, call_get, call_list, call_diff, call_patch,
    call_join, call_merge, call_mergefrom, call_same, call_nodes, call_shared,
    call_drop, call_collect, call_size, call_from, call_nth, call_sum,
    call_parents, call_common, call_putall, call_inverse, call_look, call_versions,
)
FORMS = (
    "vkx", "vk", "vk", "vkk", "vv", "vd", "dd", "vv", "vvv", "vv", "", "vv",
    "v", "", "v", "vk", "vn", "vkk", "w", "ww", "vp", "d", "v", "",
)
