"""Calls put into the list that `answers` takes, and its answer taken apart again."""

from onexpression.holder import answers


def row(given):
    """The numbers of a row (a text may be handed in as str or bytes), with their count ahead."""
    if isinstance(given, str):
        given = given.encode("latin-1")
    return [len(given), *given]


def read(text):
    return [0, *row(text)]


def bind(place, name, outcome):
    return [3, place, *row(name), *row(outcome)]


def free(place, name):
    return [4, place, *row(name)]


def own(number):
    return [5, number]


FORM = [1]
FACTS = [2]
BINDINGS = [6]


def parted(answered):
    """One list for each call."""
    found = []
    place = 0
    while place < len(answered):
        count = answered[place]
        found.append(answered[place + 1:place + 1 + count])
        place += 1 + count
    return found


def asked(*calls):
    """What each of the calls on one new object answers."""
    return parted(answers([number for call in calls for number in call]))


def last(*calls):
    return asked(*calls)[-1]


def form_of(text):
    """The form of the expression that the text is, as a str."""
    read_answer, form_answer = asked(read(text), FORM)
    if read_answer[0] != 0 or form_answer[0] != 0:
        raise AssertionError(f"{text!r} is not read: {read_answer}")
    return bytes(form_answer[1:]).decode("latin-1")


def occurrences(found):
    """The pairs of place and name that stand in an answer's row of occurrences."""
    count = found[0]
    place = 1
    pairs = []
    for _ in range(count):
        length = found[place + 1]
        pairs.append((found[place], bytes(found[place + 2:place + 2 + length]).decode("latin-1")))
        place += 2 + length
    if place != len(found):
        raise AssertionError(f"something stands behind the occurrences: {found}")
    return pairs


def facts_of(text):
    """Parts, levels, whether # stands in it, sort, occurrences of the expression that the text is."""
    read_answer, facts = asked(read(text), FACTS)
    if read_answer[0] != 0 or facts[0] != 0:
        raise AssertionError(f"{text!r} is not read: {read_answer}")
    return (*facts[1:5], occurrences(facts[5:]))
