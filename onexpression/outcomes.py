"""Outcomes, which are kept in their flat form: a row in which each part, a number or a list, takes two numbers.

Flat forms are the same just where the values are equal, and a list's parts are half of its row's numbers.
"""

NUMBER_MARK = 0
LIST_MARK = 1
FAULT_MARK = 2

WRONG_KIND = 1
OUT_OF_RANGE = 2
DIVISION_BY_ZERO = 3
NO_SUCH_PLACE = 4
TOO_LARGE = 5

LARGEST_NUMBER = 999999999999999999
MOST_LIST_PARTS = 400
DEEPEST_LIST = 20


def is_value_number(number):
    return -LARGEST_NUMBER <= number <= LARGEST_NUMBER


def is_flat_value(row):
    """Whether the row is the flat form of one value."""
    if len(row) > 2 * MOST_LIST_PARTS:
        return False
    awaited = [1]
    place = 0
    while len(awaited) > 0:
        if awaited[-1] == 0:
            awaited.pop()
            continue
        awaited[-1] -= 1
        if place + 2 > len(row):
            return False
        if row[place] == LIST_MARK and row[place + 1] >= 0 and len(awaited) <= DEEPEST_LIST:
            awaited.append(row[place + 1])
        elif row[place] != NUMBER_MARK or not is_value_number(row[place + 1]):
            return False
        place += 2
    return place == len(row)


def is_flat_fault(row):
    return len(row) == 2 and row[0] == FAULT_MARK and WRONG_KIND <= row[1] <= TOO_LARGE


def is_flat_outcome(row):
    return is_flat_fault(row) or is_flat_value(row)


def is_number(outcome):
    return outcome[0] == NUMBER_MARK


def is_list(outcome):
    return outcome[0] == LIST_MARK


def is_fault(outcome):
    return outcome[0] == FAULT_MARK


def number_outcome(number):
    """The number, or the fault that it is out of range."""
    if is_value_number(number):
        return [NUMBER_MARK, number]
    return fault_outcome(OUT_OF_RANGE)


def fault_outcome(fault):
    return [FAULT_MARK, fault]


def list_outcome(members):
    """The list of these values, or the fault that it is too large."""
    row = [LIST_MARK, len(members)]
    for member in members:
        row.extend(member)
    if len(row) > 2 * MOST_LIST_PARTS or depth_of(row) > DEEPEST_LIST:
        return fault_outcome(TOO_LARGE)
    return row


def depth_of(row):
    deepest = 0
    awaited = [1]
    for place in range(0, len(row), 2):
        while awaited[-1] == 0:
            awaited.pop()
        awaited[-1] -= 1
        if row[place] == LIST_MARK:
            deepest = max(deepest, len(awaited))
            awaited.append(row[place + 1])
    return deepest


def value_end(row, place):
    """The place behind the value that begins at this place in the row."""
    awaited = 1
    while awaited > 0:
        awaited -= 1
        if row[place] == LIST_MARK:
            awaited += row[place + 1]
        place += 2
    return place


def members_of(row):
    """The values that are the members of a list, in order."""
    members = []
    place = 2
    while place < len(row):
        after = value_end(row, place)
        members.append(row[place:after])
        place = after
    return members
