"""The calls on an object that holds one expression."""

from onexpression.forms import form_of
from onexpression.letters import bytes_of
from onexpression.outcomes import is_flat_outcome, is_value_number
from onexpression.reading import read_text
from onexpression.sorts import sort_of
from onexpression.tokens import good_name

LONGEST_TEXT = 3000
LARGEST_PLACE = 999999999999999999
MOST_BOUND = 20
MOST_KEPT = 8


def occurrence_row(place, name):
    return [place, len(name)] + bytes_of(name)


def occurrence_refusal(place, name):
    """The refusal of a place and the bytes of a name, or 0 if both are good."""
    if place < 0 or place > LARGEST_PLACE:
        return -3
    if good_name(name) == "":
        return -4
    return 0


class Holder:
    """The object: each method that is a call gives back what the call answers."""

    def __init__(self):
        self.expression = None
        self.kept = []
        self.bound = {}
        self.own_number = 0

    def hold(self, expression):
        self.kept.append(self.expression)
        if len(self.kept) > MOST_KEPT:
            self.kept.pop(0)
        self.expression = expression

    def read(self, text):
        if len(text) > LONGEST_TEXT:
            return [-1]
        reader = read_text(text)
        if reader.fault != 0:
            return [1, reader.fault, reader.fault_place]
        self.hold(reader.parts)
        return [0, len(reader.parts)]

    def form(self):
        if self.expression is None:
            return [-2]
        return [0] + form_of(self.expression).row

    def facts(self):
        if self.expression is None:
            return [-2]
        names_own = 1 if any([part.head == "own" for part in self.expression]) else 0
        occurrences = [part for part in self.expression if part.head == "occurrence"]
        answer = [0, len(self.expression), form_of(self.expression).levels, names_own, sort_of(self.expression)]
        answer.append(len(occurrences))
        for part in occurrences:
            answer.extend(occurrence_row(part.number, part.name))
        return answer

    def bind(self, place, name, outcome):
        refusal = occurrence_refusal(place, name)
        if refusal != 0:
            return [refusal]
        if not is_flat_outcome(outcome):
            return [-5]
        key = (place, good_name(name))
        if len(self.bound) == MOST_BOUND and key not in self.bound:
            return [-6]
        self.bound[key] = list(outcome)
        return [0]

    def free(self, place, name):
        refusal = occurrence_refusal(place, name)
        if refusal != 0:
            return [refusal]
        key = (place, good_name(name))
        if key not in self.bound:
            return [0]
        self.bound.pop(key)
        return [1]

    def own(self, number):
        if not is_value_number(number):
            return [-7]
        self.own_number = number
        return [0]

    def bindings(self):
        answer = [0, self.own_number, len(self.bound)]
        for key, outcome in self.bound.items():
            answer.extend(occurrence_row(key[0], key[1]))
            answer.extend(outcome)
        return answer


class Cursor:
    """Goes through the list of calls."""

    def __init__(self, calls):
        self.calls = calls
        self.at = 0

    def is_at_end(self):
        return self.at == len(self.calls)

    def take_number(self):
        number = self.calls[self.at]
        self.at += 1
        return number

    def take_row(self):
        length = self.take_number()
        row = self.calls[self.at:self.at + length]
        self.at += length
        return row


def call_read(holder, cursor):
    return holder.read(cursor.take_row())


def call_form(holder, cursor):
    return holder.form()


def call_facts(holder, cursor):
    return holder.facts()


def call_bind(holder, cursor):
    place = cursor.take_number()
    name = cursor.take_row()
    return holder.bind(place, name, cursor.take_row())


def call_free(holder, cursor):
    place = cursor.take_number()
    return holder.free(place, cursor.take_row())


def call_own(holder, cursor):
    return holder.own(cursor.take_number())


def call_bindings(holder, cursor):
    return holder.bindings()


CALLS = {
    0: call_read,
    1: call_form,
    2: call_facts,
    3: call_bind,
    4: call_free,
    5: call_own,
    6: call_bindings,
}


def answers(calls):
    """What a new object answers to the calls that stand one behind another in the list."""
    holder = Holder()
    cursor = Cursor(calls)
    answered = []
    while not cursor.is_at_end():
        answer = CALLS[cursor.take_number()](holder, cursor)
        answered.append(len(answer))
        answered.extend(answer)
    return answered
