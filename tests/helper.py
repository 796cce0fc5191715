"""Calls put into the list that `answers` takes, and its answer taken apart again."""

from onexpression.holder import answers


def row(given):
    """The numbers of a row (a text may be handed in as str or bytes), with their count ahead."""
    if isinstance(given, str):
        given = given.encode("latin-1")
    return [len(given), *given]


def read(text):
    return [0, *row(text)]


def bind(place, name, outcome):
    return [3, place, *row(name), *row(outcome)]


def free(place, name):
    return [4, place, *row(name)]


def own(number):
    return [5, number]


def try_out(text):
    return [9, *row(text)]


def same(text):
    return [10, *row(text)]


def put(place, name, text):
    return [12, place, *row(name), *row(text)]


FORM = [1]
FACTS = [2]
BINDINGS = [6]
WORK = [7]
SEEN = [8]
FOLD = [11]
BACK = [13]


def parted(answered):
    """One list for each call."""
    found = []
    place = 0
    while place < len(answered):
        count = answered[place]
        found.append(answered[place + 1:place + 1 + count])
        place += 1 + count
    return found


def asked(*calls):
    """What each of the calls on one new object answers."""
    return parted(answers([number for call in calls for number in call]))


def last(*calls):
    return asked(*calls)[-1]


def form_behind(*calls):
    """The form of the expression that is held behind the calls, as a str."""
    *answered, form_answer = asked(*calls, FORM)
    if form_answer[0] != 0 or any(answer[0] != 0 for answer in answered):
        raise AssertionError(f"a call is refused: {answered}")
    return bytes(form_answer[1:]).decode("latin-1")


def form_of(text):
    """The form of the expression that the text is, as a str."""
    return form_behind(read(text))


class FaultOutcome:
    """An outcome that is a fault."""

    def __init__(self, number):
        self.number = number

    def __repr__(self):
        return f"FaultOutcome({self.number})"

    def __eq__(self, other):
        return isinstance(other, FaultOutcome) and other.number == self.number


LARGEST = 999999999999999999
GOOD_NAMES = ["a", "z", "len", "iff", "aB3", "a23456789012", "zzzzzzzzzzzz", "thenElse"]
WRONG_NAMES = ["", "if", "then", "else", "A", "Ab", "1a", "a_", "_a", "a b", " a", "a ", "a\n", "a.b", "2.a", "-a",
               "a" * 13, "a" * 100, "\xe4", "a\xe4", "\0"]
WRONG_PLACES = [-1, -LARGEST - 1, LARGEST + 1]
TOO_LONG = ["a" + " " * 3000, " " * 3001, "_" * 4000]
NO_EXPRESSIONS = ["", " ", "a b", "_", "f(", "max(1)", "1 < 2 < 3", "1 + if a then b else c", "A", "a" * 13, "1" * 19,
                  "-" * 31 + "a", "1" + "+1" * 30, " " * 3000]
WRONG_KIND, OUT_OF_RANGE, BY_ZERO, NO_PLACE, TOO_LARGE = (FaultOutcome(number) for number in range(1, 6))


def flat(outcome):
    """The flat form of an int, a list of such values, or a FaultOutcome."""
    if isinstance(outcome, FaultOutcome):
        return [2, outcome.number]
    if isinstance(outcome, int):
        return [0, outcome]
    return [1, len(outcome), *(number for member in outcome for number in flat(member))]


def bound(given):
    """The calls that bind these outcomes to names, or to pairs of a place and a name."""
    pairs = {key if isinstance(key, tuple) else (0, key): outcome for key, outcome in given.items()}
    return [bind(place, name, flat(outcome)) for (place, name), outcome in pairs.items()]


def occurrences(found):
    """The pairs of place and name that stand in an answer's row of occurrences."""
    count = found[0]
    place = 1
    pairs = []
    for _ in range(count):
        length = found[place + 1]
        pairs.append((found[place], bytes(found[place + 2:place + 2 + length]).decode("latin-1")))
        place += 2 + length
    if place != len(found):
        raise AssertionError(f"something stands behind the occurrences: {found}")
    return pairs


def facts_of(text):
    """Parts, levels, whether # stands in it, sort, occurrences of the expression that the text is."""
    read_answer, facts = asked(read(text), FACTS)
    if read_answer[0] != 0 or facts[0] != 0:
        raise AssertionError(f"{text!r} is not read: {read_answer}")
    return (*facts[1:5], occurrences(facts[5:]))
