"""The parts of expressions.

An expression is a list of its parts in which each operation stands behind its arguments. So two expressions
are the same if their parts are the same one by one, and loops go through an expression however deep it is.
"""

OPERATORS = ("or", "and", "equal", "less", "plus", "minus", "times", "over", "rest")
SIGNS = ("negative", "not")
CALL_COUNTS = {"len": 1, "at": 2, "cat": 2, "look": 3, "drop": 2, "has": 2, "max": 2, "min": 2}

HIGHEST_STRENGTH = 8
STRENGTHS = {
    "if": 1,
    "or": 2,
    "and": 3,
    "equal": 4,
    "less": 4,
    "plus": 5,
    "minus": 5,
    "times": 6,
    "over": 6,
    "rest": 6,
    "negative": 7,
    "not": 7,
}


class Part:
    """A part: its head, how many arguments it has, and the number and name that it tells.

    The heads are "number", "own", "occurrence" (its number is its place), and those of the operations:
    "if", "list", the OPERATORS, the SIGNS, and the names of the calls.
    """

    def __init__(self, head, count, number, name):
        self.head = head
        self.count = count
        self.number = number
        self.name = name


def number_part(number):
    return Part("number", 0, number, "")


def own_part():
    return Part("own", 0, 0, "")


def occurrence_part(place, name):
    return Part("occurrence", 0, place, name)


def operation_part(head, count):
    return Part(head, count, 0, "")


def strength_of(head):
    return STRENGTHS.get(head, HIGHEST_STRENGTH)


def asked_strength(head, argument):
    """The strength that an operation asks of its argument (0 is the first) if that is to stand without brackets."""
    if head in ("equal", "less"):
        return 5
    if head in OPERATORS:
        return STRENGTHS[head] + argument
    if head in SIGNS:
        return 7
    return 1


def built(expression, build):
    """What build makes of the whole expression, when build(part, what it made of the arguments) makes it of a part."""
    made = []
    for part in expression:
        first = len(made) - part.count
        arguments = made[first:]
        made = made[:first]
        made.append(build(part, arguments))
    return made[0]


def is_occurrence_of(part, place, name):
    return part.head == "occurrence" and part.number == place and part.name == name


def with_put_in(expression, place, name, inserted):
    """The expression with the inserted one in the place of every occurrence of this place and name."""
    parts = []
    for part in expression:
        if is_occurrence_of(part, place, name):
            parts.extend(inserted)
        else:
            parts.append(part)
    return parts


def told_by(expression):
    return [(part.head, part.count, part.number, part.name) for part in expression]


def are_same(first, second):
    return told_by(first) == told_by(second)
