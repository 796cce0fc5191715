"""The calls on an object that holds one expression."""

from onexpression.folding import folded_parts
from onexpression.forms import form_of
from onexpression.letters import bytes_of
from onexpression.outcomes import is_flat_outcome, is_value_number
from onexpression.parts import are_same, is_occurrence_of, with_put_in
from onexpression.reading import MOST_LEVELS, MOST_PARTS, read_text
from onexpression.sorts import sort_of
from onexpression.tokens import good_name
from onexpression.working import worked_out

LONGEST_TEXT = 3000
LARGEST_PLACE = 999999999999999999
MOST_BOUND = 20
MOST_KEPT = 8


def occurrence_row(place, name):
    return [place, len(name)] + bytes_of(name)


def occurrences_row(occurrences):
    row = [len(occurrences)]
    for occurrence in occurrences:
        row.extend(occurrence_row(occurrence[0], occurrence[1]))
    return row


def occurrence_refusal(place, name):
    """The refusal of a place and the bytes of a name, or 0 if both are good."""
    if place < 0 or place > LARGEST_PLACE:
        return -3
    if good_name(name) == "":
        return -4
    return 0


class GivenText:
    """A text that is to be an expression: its refusal (0 if there is none) and the expression that it is."""

    def __init__(self, refusal, expression):
        self.refusal = refusal
        self.expression = expression


def given_text(text):
    if len(text) > LONGEST_TEXT:
        return GivenText(-1, [])
    reader = read_text(text)
    if reader.fault != 0:
        return GivenText(-9, [])
    return GivenText(0, reader.parts)


class Holder:
    """The object: each method that is a call gives back what the call answers."""

    def __init__(self):
        self.expression = None
        self.kept = []
        self.bound = {}
        self.own_number = 0

    def hold(self, expression):
        self.kept.append(self.expression)
        if len(self.kept) > MOST_KEPT:
            self.kept.pop(0)
        self.expression = expression

    def read(self, text):
        if len(text) > LONGEST_TEXT:
            return [-1]
        reader = read_text(text)
        if reader.fault != 0:
            return [1, reader.fault, reader.fault_place]
        self.hold(reader.parts)
        return [0, len(reader.parts)]

    def form(self):
        if self.expression is None:
            return [-2]
        return [0] + form_of(self.expression).row

    def facts(self):
        if self.expression is None:
            return [-2]
        names_own = 1 if any([part.head == "own" for part in self.expression]) else 0
        occurrences = [(part.number, part.name) for part in self.expression if part.head == "occurrence"]
        levels = form_of(self.expression).levels
        return [0, len(self.expression), levels, names_own, sort_of(self.expression)] + occurrences_row(occurrences)

    def bind(self, place, name, outcome):
        refusal = occurrence_refusal(place, name)
        if refusal != 0:
            return [refusal]
        if not is_flat_outcome(outcome):
            return [-5]
        key = (place, good_name(name))
        if len(self.bound) == MOST_BOUND and key not in self.bound:
            return [-6]
        self.bound[key] = list(outcome)
        return [0]

    def free(self, place, name):
        refusal = occurrence_refusal(place, name)
        if refusal != 0:
            return [refusal]
        key = (place, good_name(name))
        if key not in self.bound:
            return [0]
        self.bound.pop(key)
        return [1]

    def own(self, number):
        if not is_value_number(number):
            return [-7]
        self.own_number = number
        return [0]

    def bindings(self):
        answer = [0, self.own_number, len(self.bound)]
        for key, outcome in self.bound.items():
            answer.extend(occurrence_row(key[0], key[1]))
            answer.extend(outcome)
        return answer

    def work(self):
        if self.expression is None:
            return [-2]
        return [0] + worked_out(self.expression, self.bound, self.own_number).outcome

    def seen(self):
        if self.expression is None:
            return [-2]
        first_looks = {}
        for occurrence in worked_out(self.expression, self.bound, self.own_number).looked:
            first_looks[occurrence] = True
        return [0] + occurrences_row(list(first_looks))

    def try_out(self, text):
        given = given_text(text)
        if given.refusal != 0:
            return [given.refusal]
        return [0] + worked_out(given.expression, self.bound, self.own_number).outcome

    def same(self, text):
        given = given_text(text)
        if given.refusal != 0:
            return [given.refusal]
        if self.expression is None:
            return [-2]
        return [1 if are_same(self.expression, given.expression) else 0]

    def fold(self):
        if self.expression is None:
            return [-2]
        parts = folded_parts(self.expression)
        if form_of(parts).levels > MOST_LEVELS:
            return [-8]
        self.hold(parts)
        return [0, len(parts)]

    def put(self, place, name, text):
        refusal = occurrence_refusal(place, name)
        if refusal != 0:
            return [refusal]
        given = given_text(text)
        if given.refusal != 0:
            return [given.refusal]
        if self.expression is None:
            return [-2]
        word = good_name(name)
        parts = with_put_in(self.expression, place, word, given.expression)
        if len(parts) > MOST_PARTS:
            return [-10]
        if form_of(parts).levels > MOST_LEVELS:
            return [-8]
        replaced = [part for part in self.expression if is_occurrence_of(part, place, word)]
        self.hold(parts)
        return [0, len(replaced)]

    def back(self):
        if len(self.kept) == 0:
            return [-11]
        self.expression = self.kept.pop()
        return [0]


class Cursor:
    """Goes through the list of calls."""

    def __init__(self, calls):
        self.calls = calls
        self.at = 0

    def is_at_end(self):
        return self.at == len(self.calls)

    def take_number(self):
        number = self.calls[self.at]
        self.at += 1
        return number

    def take_row(self):
        length = self.take_number()
        row = self.calls[self.at:self.at + length]
        self.at += length
        return row


def call_read(holder, cursor):
    return holder.read(cursor.take_row())


def call_form(holder, cursor):
    return holder.form()


def call_facts(holder, cursor):
    return holder.facts()


def call_bind(holder, cursor):
    place = cursor.take_number()
    name = cursor.take_row()
    return holder.bind(place, name, cursor.take_row())


def call_free(holder, cursor):
    place = cursor.take_number()
    return holder.free(place, cursor.take_row())


def call_own(holder, cursor):
    return holder.own(cursor.take_number())


def call_bindings(holder, cursor):
    return holder.bindings()


def call_work(holder, cursor):
    return holder.work()


def call_seen(holder, cursor):
    return holder.seen()


def call_try_out(holder, cursor):
    return holder.try_out(cursor.take_row())


def call_same(holder, cursor):
    return holder.same(cursor.take_row())


def call_fold(holder, cursor):
    return holder.fold()


def call_put(holder, cursor):
    place = cursor.take_number()
    name = cursor.take_row()
    return holder.put(place, name, cursor.take_row())


def call_back(holder, cursor):
    return holder.back()


CALLS = {
    0: call_read,
    1: call_form,
    2: call_facts,
    3: call_bind,
    4: call_free,
    5: call_own,
    6: call_bindings,
    7: call_work,
    8: call_seen,
    9: call_try_out,
    10: call_same,
    11: call_fold,
    12: call_put,
    13: call_back,
}


def answers(calls):
    """What a new object answers to the calls that stand one behind another in the list."""
    holder = Holder()
    cursor = Cursor(calls)
    answered = []
    while not cursor.is_at_end():
        answer = CALLS[cursor.take_number()](holder, cursor)
        answered.append(len(answer))
        answered.extend(answer)
    return answered
