"""Expressions worked out."""

from onexpression.operations import outcome_of_operation, places_come_to
from onexpression.outcomes import number_outcome
from onexpression.parts import built


class Worked:
    """An outcome, and the occurrences (place and name) that were looked at for it, as often as they were."""

    def __init__(self, outcome, looked):
        self.outcome = outcome
        self.looked = looked


def worked_operation(head, arguments):
    outcomes = [argument.outcome for argument in arguments]
    looked = []
    for place in places_come_to(head, outcomes):
        looked.extend(arguments[place].looked)
    return Worked(outcome_of_operation(head, outcomes), looked)


def worked_out(expression, bound, own_number):
    """The expression worked out, where outcomes are bound to occurrences; an occurrence without one is worth 0."""

    def work_part(part, arguments):
        if part.head == "number":
            return Worked(number_outcome(part.number), [])
        if part.head == "own":
            return Worked(number_outcome(own_number), [])
        if part.head == "occurrence":
            occurrence = (part.number, part.name)
            return Worked(bound.get(occurrence, number_outcome(0)), [occurrence])
        return worked_operation(part.head, arguments)

    return built(expression, work_part)
