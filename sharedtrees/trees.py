"""Reading and writing the tree of one map. Trees are at most 41 deep, so they are walked by recursion."""

from sharedtrees.nodes import NOTHING, Leaf


def bit_of(key, bit):
    return (key >> bit) % 2


def highest_unlike_bit(key, other):
    if key == other:
        return 0
    return (key ^ other).bit_length() - 1


def keep_beside(nodes, key, value, top):
    leaf = nodes.keep_leaf(key, value)
    bit = highest_unlike_bit(key, nodes.node(top).least)
    if bit_of(key, bit) == 0:
        return nodes.keep_fork(bit, leaf, top)
    return nodes.keep_fork(bit, top, leaf)


def put_value(nodes, top, key, value):
    if top == NOTHING:
        return nodes.keep_leaf(key, value)
    node = nodes.node(top)
    if isinstance(node, Leaf):
        if node.key == key:
            return nodes.keep_leaf(key, value)
        return keep_beside(nodes, key, value, top)
    if highest_unlike_bit(key, node.least) > node.bit:
        return keep_beside(nodes, key, value, top)
    if bit_of(key, node.bit) == 0:
        return nodes.keep_fork(node.bit, put_value(nodes, node.left, key, value), node.right)
    return nodes.keep_fork(node.bit, node.left, put_value(nodes, node.right, key, value))


def take_out(nodes, top, key):
    if top == NOTHING:
        return NOTHING
    node = nodes.node(top)
    if isinstance(node, Leaf):
        return NOTHING if node.key == key else top
    if bit_of(key, node.bit) == 0:
        left = take_out(nodes, node.left, key)
        return node.right if left == NOTHING else nodes.keep_fork(node.bit, left, node.right)
    right = take_out(nodes, node.right, key)
    return node.left if right == NOTHING else nodes.keep_fork(node.bit, node.left, right)


def value_at(nodes, top, key):
    if top == NOTHING:
        return None
    node = nodes.node(top)
    while not isinstance(node, Leaf):
        node = nodes.node(node.left if bit_of(key, node.bit) == 0 else node.right)
    return node.value if node.key == key else None


# Fills the dict found with the map's keys, rising.
def gather_map(nodes, top, found):
    if top == NOTHING:
        return
    node = nodes.node(top)
    if isinstance(node, Leaf):
        found[node.key] = node.value
        return
    gather_map(nodes, node.left, found)
    gather_map(nodes, node.right, found)


# Appends the pairs to the list found, and gives back how many nodes were looked at.
def gather_range(nodes, top, lo, hi, found):
    if top == NOTHING:
        return 0
    node = nodes.node(top)
    if isinstance(node, Leaf):
        if lo <= node.key <= hi:
            found.append((node.key, node.value))
        return 1
    first = (node.least >> (node.bit + 1)) << (node.bit + 1)
    mid = first + (1 << node.bit)
    if hi < first or lo >= first + (1 << (node.bit + 1)):
        return 1
    count = 1
    if lo < mid:
        count += gather_range(nodes, node.left, lo, hi, found)
    if hi >= mid:
        count += gather_range(nodes, node.right, lo, hi, found)
    return count


def pairs_between(nodes, top, lo, hi):
    pairs = []
    gather_range(nodes, top, lo, hi, pairs)
    return pairs


def depth_of(nodes, top):
    if top == NOTHING:
        return 0
    node = nodes.node(top)
    if isinstance(node, Leaf):
        return 1
    return 1 + max(depth_of(nodes, node.left), depth_of(nodes, node.right))


# Adds the numbers of a tree's nodes to the dict needed; what is in it already is not walked again.
def gather_needed(nodes, top, needed):
    if top == NOTHING or top in needed:
        return
    needed[top] = True
    node = nodes.node(top)
    if not isinstance(node, Leaf):
        gather_needed(nodes, node.left, needed)
        gather_needed(nodes, node.right, needed)
