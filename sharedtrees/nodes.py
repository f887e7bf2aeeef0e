"""Leaves and forks, each kept once and numbered in the order in which they are made."""

# The number that stands for a tree of no key.
NOTHING = 0


class Leaf:
    def __init__(self, key, value):
        self.key = key
        self.value = value
        self.least = key
        self.shape = (key, value)


class Fork:
    # The least key is kept with the fork, so that no walk down the left side is needed to know it.
    def __init__(self, bit, left, right, least):
        self.bit = bit
        self.left = left
        self.right = right
        self.least = least
        self.shape = (bit, left, right)


class Nodes:
    # A leaf's shape has two numbers and a fork's three, so one dict can hold both without a clash.
    def __init__(self):
        self.made = 0
        self.kept = {}
        self.numbers = {}

    def node(self, number):
        return self.kept[number]

    def keep_leaf(self, key, value):
        return self.keep(Leaf(key, value))

    def keep_fork(self, bit, left, right):
        return self.keep(Fork(bit, left, right, self.kept[left].least))

    def keep(self, node):
        if node.shape not in self.numbers:
            self.made += 1
            self.kept[self.made] = node
            self.numbers[node.shape] = self.made
        return self.numbers[node.shape]

    # A refused write has to leave no trace, not even in the numbering.
    def undo_since(self, made):
        for number in range(made + 1, self.made + 1):
            self.throw_away(number)
        self.made = made

    # Gives back how many are thrown away. They still count as made, so no number is used again.
    def keep_only(self, needed):
        unneeded = [number for number in self.kept if number not in needed]
        for number in unneeded:
            self.throw_away(number)
        return len(unneeded)

    def throw_away(self, number):
        node = self.kept.pop(number)
        self.numbers.pop(node.shape)
