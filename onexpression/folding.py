"""Expressions folded: what can be known beforehand is worked out beforehand."""

from onexpression.operations import DECIDING_TRUTHS, outcome_of_operation, truth_of
from onexpression.outcomes import LIST_MARK, is_fault, is_number, number_outcome
from onexpression.parts import SIGNS, built, number_part, operation_part
from onexpression.sorts import sort_of

# The numbers that change nothing at an operation's second argument, at some also at its first.
NEUTRAL_NUMBERS = {"plus": 0, "minus": 0, "times": 1, "over": 1}
NEUTRAL_AT_FIRST = ("plus", "times")

# The sorts of what stands behind a sign put twice, so that both signs can go.
SORTS_BEHIND_TWO_SIGNS = {"negative": (1, 2), "not": (2,)}


class Folded:
    """A folded expression; what is known is its outcome if it names nothing, else None."""

    def __init__(self, parts, known):
        self.parts = parts
        self.known = known


def written_number(number):
    if number < 0:
        return [number_part(-number), operation_part("negative", 1)]
    return [number_part(number)]


def written_value(value):
    """The value written as an expression.

    In a flat form a list stands ahead of its members, so from the end on all of them are written before it is.
    """
    written = []
    for place in range(len(value) - 2, -1, -2):
        told = value[place + 1]
        parts = []
        if value[place] == LIST_MARK:
            for count in range(told):
                parts.extend(written.pop())
            parts.append(operation_part("list", told))
        else:
            parts.extend(written_number(told))
        written.append(parts)
    return written[0]


def is_known_number(argument):
    return argument.known is not None and is_number(argument.known)


def is_surely_number(argument):
    return sort_of(argument.parts) in (1, 2)


def chosen_by_if(arguments):
    if not is_known_number(arguments[0]):
        return None
    return arguments[2] if arguments[0].known[1] == 0 else arguments[1]


def decided_truth(head, arguments):
    if not is_known_number(arguments[0]):
        return None
    deciding = number_outcome(DECIDING_TRUTHS[head])
    if truth_of(arguments[0].known) == deciding:
        return Folded(written_value(deciding), deciding)
    return arguments[1] if sort_of(arguments[1].parts) == 2 else None


def without_neutral(head, arguments):
    neutral = number_outcome(NEUTRAL_NUMBERS[head])
    if head in NEUTRAL_AT_FIRST and arguments[0].known == neutral and is_surely_number(arguments[1]):
        return arguments[1]
    if arguments[1].known == neutral and is_surely_number(arguments[0]):
        return arguments[0]
    return None


def without_two_signs(head, argument):
    behind = argument.parts[:-1]
    if argument.parts[-1].head == head and sort_of(behind) in SORTS_BEHIND_TWO_SIGNS[head]:
        # What is known here is a fault, as a value would have been written, and a sign hands its argument's fault on.
        return Folded(behind, argument.known)
    return None


def simpler(head, arguments):
    """What the operation becomes by its own rule, or None if that does not fit."""
    if head == "if":
        return chosen_by_if(arguments)
    if head in DECIDING_TRUTHS:
        return decided_truth(head, arguments)
    if head in NEUTRAL_NUMBERS:
        return without_neutral(head, arguments)
    if head in SIGNS:
        return without_two_signs(head, arguments[0])
    return None


def known_outcome(head, arguments):
    outcomes = [argument.known for argument in arguments]
    return None if None in outcomes else outcome_of_operation(head, outcomes)


def folded_operation(part, arguments):
    known = known_outcome(part.head, arguments)
    if known is not None and not is_fault(known):
        return Folded(written_value(known), known)
    made = simpler(part.head, arguments)
    if made is not None:
        return made
    parts = []
    for argument in arguments:
        parts.extend(argument.parts)
    return Folded(parts + [part], known)


def folded_part(part, arguments):
    if part.head == "number":
        return Folded([part], number_outcome(part.number))
    if part.head in ("own", "occurrence"):
        return Folded([part], None)
    return folded_operation(part, arguments)


def folded_parts(expression):
    return built(expression, folded_part).parts
