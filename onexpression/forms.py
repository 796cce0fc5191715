"""Expressions written in their form."""

from onexpression.letters import bytes_of
from onexpression.parts import HIGHEST_STRENGTH, OPERATORS, SIGNS
from onexpression.parts import asked_strength, built, strength_of

OPERATOR_BYTES = {
    "or": 124,
    "and": 38,
    "equal": 61,
    "less": 60,
    "plus": 43,
    "minus": 45,
    "times": 42,
    "over": 47,
    "rest": 37,
    "negative": 45,
    "not": 33,
}


class Form:
    """The bytes of an expression's form, its strength, and the levels that are opened when it is read."""

    def __init__(self, row, strength, levels):
        self.row = row
        self.strength = strength
        self.levels = levels


def leaf_row(part):
    if part.head == "own":
        return bytes_of("#")
    if part.head == "number":
        return bytes_of(str(part.number))
    if part.number == 0:
        return bytes_of(part.name)
    return bytes_of(str(part.number)) + bytes_of(".") + bytes_of(part.name)


def bracketed(form, asked):
    if form.strength >= asked:
        return form
    return Form(bytes_of("(") + form.row + bytes_of(")"), HIGHEST_STRENGTH, form.levels + 1)


def listed_rows(arguments):
    row = []
    for place, argument in enumerate(arguments):
        if place > 0:
            row.extend(bytes_of(", "))
        row.extend(argument.row)
    return row


def operation_row(head, arguments):
    if head in OPERATORS:
        return arguments[0].row + [32, OPERATOR_BYTES[head], 32] + arguments[1].row
    if head in SIGNS:
        return [OPERATOR_BYTES[head]] + arguments[0].row
    if head == "if":
        condition = bytes_of("if ") + arguments[0].row
        return condition + bytes_of(" then ") + arguments[1].row + bytes_of(" else ") + arguments[2].row
    if head == "list":
        return bytes_of("[") + listed_rows(arguments) + bytes_of("]")
    return bytes_of(head) + bytes_of("(") + listed_rows(arguments) + bytes_of(")")


def operation_levels(head, arguments):
    within = max([argument.levels for argument in arguments], default=0)
    return within if head in OPERATORS else within + 1


def form_of_part(part, arguments):
    head = part.head
    if head in ("number", "own", "occurrence"):
        return Form(leaf_row(part), HIGHEST_STRENGTH, 0)
    written = [bracketed(argument, asked_strength(head, place)) for place, argument in enumerate(arguments)]
    return Form(operation_row(head, written), strength_of(head), operation_levels(head, written))


def form_of(expression):
    return built(expression, form_of_part)
