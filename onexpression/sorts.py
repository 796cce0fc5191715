"""What kind an expression surely has: 0 if nothing is sure, 1 a number, 2 the number 0 or 1, 3 a list."""

from onexpression.parts import built

# What is named neither here nor in sort_of_part is an operation that has a number as its value: the sort 1.
SORTS = {
    "own": 1,
    "occurrence": 0,
    "or": 2,
    "and": 2,
    "equal": 2,
    "less": 2,
    "not": 2,
    "has": 2,
    "list": 3,
    "cat": 3,
    "drop": 3,
    "at": 0,
    "look": 0,
}


def sort_of_either(first, second):
    if first == second:
        return first
    if first in (1, 2) and second in (1, 2):
        return 1
    return 0


def sort_of_part(part, arguments):
    if part.head == "number":
        return 2 if part.number in (0, 1) else 1
    if part.head == "if":
        return sort_of_either(arguments[1], arguments[2])
    return SORTS.get(part.head, 1)


def sort_of(expression):
    return built(expression, sort_of_part)
