"""Outcomes in their flat form."""

LARGEST_NUMBER = 999999999999999999
MOST_LIST_PARTS = 400
DEEPEST_LIST = 20


def is_value_number(number):
    return -LARGEST_NUMBER <= number <= LARGEST_NUMBER


def is_flat_value(row):
    """Whether the row is the flat form of one value: each of its parts, a number or a list, takes two numbers."""
    if len(row) > 2 * MOST_LIST_PARTS:
        return False
    awaited = [1]
    place = 0
    while len(awaited) > 0:
        if awaited[-1] == 0:
            awaited.pop()
            continue
        awaited[-1] -= 1
        if place + 2 > len(row):
            return False
        if row[place] == 1 and row[place + 1] >= 0 and len(awaited) <= DEEPEST_LIST:
            awaited.append(row[place + 1])
        elif row[place] != 0 or not is_value_number(row[place + 1]):
            return False
        place += 2
    return place == len(row)


def is_flat_fault(row):
    return len(row) == 2 and row[0] == 2 and 1 <= row[1] <= 5


def is_flat_outcome(row):
    return is_flat_fault(row) or is_flat_value(row)
