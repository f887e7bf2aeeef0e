"""How calls stand in the list handed in, and which arguments are in their ranges.

A call's form is a text of one letter for each argument:
v a held version, w a version held or not, k a key, x a value, n a place, d a difference, p pairs of a key and a value.
"""

from sharedtrees.differences import Change
from sharedtrees.limits import CHANGE_LENGTH, GREATEST_KEY, GREATEST_PLACE, GREATEST_VALUE, LEAST_VALUE
from sharedtrees.limits import LONGEST_DIFFERENCE, LONGEST_PAIRS, MOST_VERSIONS, PAIR_LENGTH
from sharedtrees.nodes import Leaf


class Reader:
    def __init__(self, numbers):
        self.numbers_read = numbers
        self.place = 0

    def has_more(self):
        return self.place < len(self.numbers_read)

    def take_number(self):
        number = self.numbers_read[self.place]
        self.place += 1
        return number

    def take_numbers(self):
        count = self.take_number()
        start = self.place
        self.place += count
        return self.numbers_read[start:self.place]

    def take_arguments(self, form):
        return [self.take_numbers() if letter in "dp" else self.take_number() for letter in form]


def is_key(number):
    return 0 <= number <= GREATEST_KEY


def is_value(number):
    return LEAST_VALUE <= number <= GREATEST_VALUE


# A missing value has one form alone, 0 and 0.
def is_told_value(present, value):
    if present == 0:
        return value == 0
    return present == 1 and is_value(value)


def are_told_changes(numbers):
    if len(numbers) > LONGEST_DIFFERENCE or len(numbers) % CHANGE_LENGTH != 0:
        return False
    for place in range(0, len(numbers), CHANGE_LENGTH):
        if not is_key(numbers[place]):
            return False
        if not is_told_value(numbers[place + 1], numbers[place + 2]):
            return False
        if not is_told_value(numbers[place + 3], numbers[place + 4]):
            return False
    return True


def are_told_pairs(numbers):
    if len(numbers) > LONGEST_PAIRS or len(numbers) % PAIR_LENGTH != 0:
        return False
    return all([is_key(pair[0]) and is_value(pair[1]) for pair in read_pairs(numbers)])


def is_in_range(letter, argument):
    if letter in "vw":
        return 0 <= argument < MOST_VERSIONS
    if letter == "k":
        return is_key(argument)
    if letter == "x":
        return is_value(argument)
    if letter == "n":
        return 0 <= argument <= GREATEST_PLACE
    if letter == "p":
        return are_told_pairs(argument)
    return are_told_changes(argument)


def are_in_range(form, arguments):
    return all([is_in_range(letter, argument) for letter, argument in zip(form, arguments)])


def read_value(present, value):
    return value if present == 1 else None


def read_changes(numbers):
    changes = []
    for place in range(0, len(numbers), CHANGE_LENGTH):
        before = read_value(numbers[place + 1], numbers[place + 2])
        behind = read_value(numbers[place + 3], numbers[place + 4])
        changes.append(Change(numbers[place], before, behind))
    return changes


def read_pairs(numbers):
    return [(numbers[place], numbers[place + 1]) for place in range(0, len(numbers), PAIR_LENGTH)]


def tell_value(value):
    return [0, 0] if value is None else [1, value]


def tell_changes(changes):
    told = [len(changes)]
    for change in changes:
        told.append(change.key)
        told.extend(tell_value(change.before))
        told.extend(tell_value(change.behind))
    return told


def tell_conflicts(conflicts):
    told = [len(conflicts)]
    for conflict in conflicts:
        told.append(conflict.key)
        told.extend(tell_value(conflict.base))
        told.extend(tell_value(conflict.first))
        told.extend(tell_value(conflict.second))
    return told


def tell_pairs(pairs):
    told = [len(pairs)]
    for pair in pairs:
        told.extend(pair)
    return told


def tell_pair_at(pairs, place):
    if place >= len(pairs):
        return [0, 0, 0]
    return [1] + list(pairs[place])


def tell_node(node):
    if isinstance(node, Leaf):
        return [1, node.key, node.value]
    return [2, node.bit, node.left, node.right]
