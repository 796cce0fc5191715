"""What an operation is worth by the outcomes of its arguments, and which of these it comes to."""

from onexpression.outcomes import DIVISION_BY_ZERO, NO_SUCH_PLACE, WRONG_KIND
from onexpression.outcomes import fault_outcome, is_fault, is_list, is_number, list_outcome, members_of, number_outcome

# The truth of the first argument that is the outcome by itself, whatever the second is worth.
DECIDING_TRUTHS = {"and": 0, "or": 1}

# The kinds of values that an operation asks for; a list takes any number of any values.
ASKED_KINDS = {
    "equal": ("any", "any"),
    "less": ("number", "number"),
    "plus": ("number", "number"),
    "minus": ("number", "number"),
    "times": ("number", "number"),
    "over": ("number", "number"),
    "rest": ("number", "number"),
    "negative": ("number",),
    "not": ("number",),
    "list": (),
    "len": ("list",),
    "at": ("list", "number"),
    "cat": ("list", "list"),
    "look": ("list", "any", "any"),
    "drop": ("list", "number"),
    "has": ("list", "any"),
    "max": ("number", "number"),
    "min": ("number", "number"),
}


def yes_or_no(holds):
    return number_outcome(1 if holds else 0)


def equality(values):
    return yes_or_no(values[0] == values[1])


def lessness(values):
    return yes_or_no(values[0][1] < values[1][1])


def addition(values):
    return number_outcome(values[0][1] + values[1][1])


def subtraction(values):
    return number_outcome(values[0][1] - values[1][1])


def multiplication(values):
    return number_outcome(values[0][1] * values[1][1])


def division(values):
    if values[1][1] == 0:
        return fault_outcome(DIVISION_BY_ZERO)
    return number_outcome(values[0][1] // values[1][1])


def remainder(values):
    if values[1][1] == 0:
        return fault_outcome(DIVISION_BY_ZERO)
    return number_outcome(values[0][1] % values[1][1])


def negation(values):
    return number_outcome(-values[0][1])


def denial(values):
    return yes_or_no(values[0][1] == 0)


def listing(values):
    return list_outcome(values)


def length(values):
    return number_outcome(values[0][1])


def member_at(values):
    place = values[1][1]
    if place < 0 or place >= values[0][1]:
        return fault_outcome(NO_SUCH_PLACE)
    return members_of(values[0])[place]


def concatenation(values):
    return list_outcome(members_of(values[0]) + members_of(values[1]))


def is_pair(value):
    return is_list(value) and value[1] == 2


def looked_up(values):
    for member in members_of(values[0]):
        if is_pair(member):
            pair = members_of(member)
            if pair[0] == values[1]:
                return pair[1]
    return values[2]


def dropping(values):
    count = values[1][1]
    if count < 0 or count > values[0][1]:
        return fault_outcome(NO_SUCH_PLACE)
    return list_outcome(members_of(values[0])[count:])


def membership(values):
    return yes_or_no(values[1] in members_of(values[0]))


def greater_number(values):
    return number_outcome(max(values[0][1], values[1][1]))


def lesser_number(values):
    return number_outcome(min(values[0][1], values[1][1]))


BY_VALUES = {
    "equal": equality,
    "less": lessness,
    "plus": addition,
    "minus": subtraction,
    "times": multiplication,
    "over": division,
    "rest": remainder,
    "negative": negation,
    "not": denial,
    "list": listing,
    "len": length,
    "at": member_at,
    "cat": concatenation,
    "look": looked_up,
    "drop": dropping,
    "has": membership,
    "max": greater_number,
    "min": lesser_number,
}


def is_of_kind(value, kind):
    if kind == "number":
        return is_number(value)
    if kind == "list":
        return is_list(value)
    return True


def outcome_of_values(head, values):
    if not all([is_of_kind(value, kind) for value, kind in zip(values, ASKED_KINDS[head])]):
        return fault_outcome(WRONG_KIND)
    return BY_VALUES[head](values)


def truth_of(outcome):
    if is_number(outcome):
        return yes_or_no(outcome[1] != 0)
    return outcome if is_fault(outcome) else fault_outcome(WRONG_KIND)


def places_behind_truth(head, truth):
    """The places of the arguments that an if, & or | comes to, by the truth of the first one's outcome."""
    if is_fault(truth):
        return [0]
    if head == "if":
        return [0, 1] if truth[1] == 1 else [0, 2]
    return [0] if truth[1] == DECIDING_TRUTHS[head] else [0, 1]


def places_come_to(head, outcomes):
    """The places of the arguments that the operation comes to, in order, where these have the outcomes."""
    if head == "if" or head in DECIDING_TRUTHS:
        return places_behind_truth(head, truth_of(outcomes[0]))
    places = []
    for place, outcome in enumerate(outcomes):
        places.append(place)
        if is_fault(outcome):
            return places
    return places


def outcome_of_operation(head, outcomes):
    reached = [outcomes[place] for place in places_come_to(head, outcomes)]
    if head in DECIDING_TRUTHS:
        return truth_of(reached[-1])
    if head == "if":
        return reached[1] if len(reached) == 2 else truth_of(reached[0])
    if len(reached) > 0 and is_fault(reached[-1]):
        return reached[-1]
    return outcome_of_values(head, outcomes)
