"""Expressions read off texts."""

from onexpression.parts import CALL_COUNTS, OPERATORS, SIGNS
from onexpression.parts import asked_strength, number_part, occurrence_part, operation_part, own_part, strength_of
from onexpression.tokens import tokens_of

MOST_LEVELS = 30
MOST_PARTS = 60


class Begun:
    """What was begun and waits for an argument: an operator, a sign, an if, a list, a call or a round bracket.

    Its head is that of its part ("round" for a bracket, which is no part), its count tells how many arguments
    are complete, its place is where a fault in that count is told.
    """

    def __init__(self, head, place):
        self.head = head
        self.count = 0
        self.place = place


def parting_kind(begun):
    """The kind of the token behind which another argument stands, or the empty text if none may."""
    if begun.head == "if":
        return "then" if begun.count == 0 else "else"
    return "" if begun.head == "round" else "comma"


def closing_kind(begun):
    """The kind of the token that closes a bracket, or the empty text if what was begun is none."""
    if begun.head == "if":
        return ""
    return "square end" if begun.head == "list" else "round end"


class Reader:
    """Reads one expression off tokens, each token once.

    What it awaits is "expression", "first" (an expression, or the end of the bracket that was just begun),
    "argument" (what may stand behind an operator or a sign), "more" (what may stand behind an argument that
    is complete), or "nothing" once it has come to its end.
    """

    def __init__(self, tokens):
        self.tokens = tokens
        self.at = 0
        self.awaited = "expression"
        self.begun = []
        self.levels = 0
        self.parts = []
        self.fault = 0
        self.fault_place = 0

    def fail(self, fault, place):
        self.fault = fault
        self.fault_place = place
        self.awaited = "nothing"

    def token(self):
        return self.tokens[self.at]

    def read_all(self):
        last = self.tokens[-1]
        if last.kind == "fault":
            self.fail(last.told, last.place)
        while self.awaited != "nothing":
            if self.awaited == "more":
                self.go_on()
            elif self.awaited == "first" and self.token().kind == closing_kind(self.begun[-1]):
                self.end_bracket()
            else:
                self.take_argument()

    def take_argument(self):
        token = self.token()
        if token.kind == "number":
            self.take_number(token)
        elif token.kind == "small":
            self.take_name(token)
        elif token.kind == "own":
            self.take_leaf(own_part(), 1)
        elif token.kind == "round begin":
            self.begin("round", token.place, "expression")
        elif token.kind == "square begin":
            self.begin("list", token.place, "first")
        elif token.kind == "minus":
            self.begin("negative", token.place, "argument")
        elif token.kind == "not":
            self.begin("not", token.place, "argument")
        elif token.kind == "if" and self.awaited != "argument":
            self.begin("if", token.place, "expression")
        else:
            self.fail(4, token.place)

    def take_number(self, token):
        if self.tokens[self.at + 1].kind != "point":
            self.take_leaf(number_part(token.told), 1)
            return
        name = self.tokens[self.at + 2]
        if name.kind == "small":
            self.take_leaf(occurrence_part(token.told, name.told), 3)
        else:
            self.fail(4, name.place)

    def take_name(self, token):
        if self.tokens[self.at + 1].kind != "round begin":
            self.take_leaf(occurrence_part(0, token.told), 1)
        elif token.told in CALL_COUNTS:
            self.at += 1
            self.begin(token.told, token.place, "first")
        else:
            self.fail(6, token.place)

    def take_leaf(self, part, token_count):
        self.parts.append(part)
        self.at += token_count
        self.end_argument()

    def begin(self, head, place, awaited):
        """Opens a level with the token that is at hand; place is that of the part's first token."""
        if self.levels == MOST_LEVELS:
            self.fail(5, self.token().place)
            return
        self.levels += 1
        self.begun.append(Begun(head, place))
        self.at += 1
        self.awaited = awaited

    def last_begun(self):
        """The head of what was begun last, or the empty text if nothing is begun."""
        return self.begun[-1].head if len(self.begun) > 0 else ""

    def end_argument(self):
        while self.last_begun() in SIGNS:
            self.end_operation(1)
            self.levels -= 1
        self.awaited = "more"

    def end_operation(self, count):
        self.parts.append(operation_part(self.begun.pop().head, count))

    def end_operators(self, least):
        """Ends the operators begun last whose strength is at least this."""
        while self.last_begun() in OPERATORS and strength_of(self.last_begun()) >= least:
            self.end_operation(2)

    def go_on(self):
        head = self.token().kind
        if head in OPERATORS:
            self.end_operators(asked_strength(head, 0))
            if self.may_follow(head):
                self.begun.append(Begun(head, self.token().place))
                self.at += 1
                self.awaited = "argument"
                return
        self.end_operators(0)
        self.end_ifs()
        self.go_on_behind_expression()

    def may_follow(self, head):
        """Whether the operator may stand within the argument that is being read: a second comparison may not."""
        last = self.last_begun()
        return last not in OPERATORS or strength_of(head) >= asked_strength(last, 1)

    def end_ifs(self):
        while self.last_begun() == "if" and self.begun[-1].count == 2:
            self.end_operation(3)
            self.levels -= 1

    def go_on_behind_expression(self):
        if len(self.begun) == 0:
            self.finish()
            return
        last = self.begun[-1]
        kind = self.token().kind
        if kind == parting_kind(last):
            last.count += 1
            self.at += 1
            self.awaited = "expression"
        elif kind == closing_kind(last):
            last.count += 1
            self.end_bracket()
        else:
            self.fail(4, self.token().place)

    def end_bracket(self):
        last = self.begun[-1]
        if last.head in CALL_COUNTS and last.count != CALL_COUNTS[last.head]:
            self.fail(6, last.place)
            return
        if last.head == "round":
            self.begun.pop()
        else:
            self.end_operation(last.count)
        self.levels -= 1
        self.at += 1
        self.end_argument()

    def finish(self):
        if len(self.parts) > MOST_PARTS:
            self.fail(7, self.tokens[0].place)
        elif self.token().kind != "end":
            self.fail(4, self.token().place)
        else:
            self.awaited = "nothing"


def read_text(text):
    """A reader that has come to its end: its parts are the expression, unless its fault is other than 0."""
    reader = Reader(tokens_of(text))
    reader.read_all()
    return reader
