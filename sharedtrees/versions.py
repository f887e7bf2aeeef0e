"""The program's one way in: a list of calls on a new object, and their answers."""

from sharedtrees.calls import CALLS, FORMS
from sharedtrees.forms import Reader, are_in_range
from sharedtrees.limits import NO_SUCH_VERSION, OUT_OF_RANGE
from sharedtrees.store import Store


def are_versions_there(store, form, arguments):
    for letter, argument in zip(form, arguments):
        if letter == "v" and not store.is_held(argument):
            return False
        if letter == "w" and not store.is_there(argument):
            return False
    return True


def answer_call(store, number, arguments):
    form = FORMS[number]
    if not are_in_range(form, arguments):
        return [OUT_OF_RANGE]
    if not are_versions_there(store, form, arguments):
        return [NO_SUCH_VERSION]
    perform = CALLS[number]
    return perform(store, arguments)


def answers(calls):
    store = Store()
    reader = Reader(calls)
    told = []
    while reader.has_more():
        number = reader.take_number()
        answer = answer_call(store, number, reader.take_arguments(FORMS[number]))
        told.append(len(answer))
        told.extend(answer)
    return told
