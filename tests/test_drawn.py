"""The program against a second object, and promise 15, over drawn expressions, bindings, own numbers and calls.

The second object keeps expressions as trees and values as nested lists, and works by recursion: it really comes only
to what it looks at, and folds rule by rule as the words tell it.
"""

import random
import unittest

from tests.helper import (BACK, BINDINGS, BY_ZERO, FACTS, FOLD, FORM, LARGEST, NO_PLACE, OUT_OF_RANGE, SEEN, TOO_LARGE,
                          WORK, WRONG_KIND, FaultOutcome, asked, bind, flat, free, own, put, read, same, try_out)
from tests.test_reference import Fault, Reference, arguments_of, form, parts, sort, walked

NUMERIC_OPERATIONS = ("sign-", "sign!", "+", "-", "*", "/", "%", "<", "max", "min")


def is_fault(outcome):
    return isinstance(outcome, FaultOutcome)


def is_number(outcome):
    return isinstance(outcome, int)


def value_parts(value):
    return 1 if is_number(value) else 1 + sum(value_parts(member) for member in value)


def value_depth(value):
    return 0 if is_number(value) else 1 + max((value_depth(member) for member in value), default=0)


def limited(value):
    return TOO_LARGE if value_parts(value) > 400 or value_depth(value) > 20 else value


def numeric(head, first, second=0):
    if head in ("/", "%") and second == 0:
        return BY_ZERO
    result = {"sign-": lambda: -first, "sign!": lambda: int(first == 0), "+": lambda: first + second,
              "-": lambda: first - second, "*": lambda: first * second, "/": lambda: first // second,
              "%": lambda: first - second * (first // second), "<": lambda: int(first < second),
              "max": lambda: max(first, second), "min": lambda: min(first, second)}[head]()
    return result if abs(result) <= LARGEST else OUT_OF_RANGE


def applied(head, values):
    if head in NUMERIC_OPERATIONS:
        return numeric(head, *values) if all(map(is_number, values)) else WRONG_KIND
    if head == "=":
        return int(values[0] == values[1])
    if head == "list":
        return limited(list(values))
    if is_number(values[0]):
        return WRONG_KIND
    if head == "has":
        return int(values[1] in values[0])
    if head == "len":
        return len(values[0])
    if head == "look":
        pairs = [member for member in values[0] if not is_number(member) and len(member) == 2]
        return next((second for first, second in pairs if first == values[1]), values[2])
    if head == "cat":
        return WRONG_KIND if is_number(values[1]) else limited(values[0] + values[1])
    if not is_number(values[1]):
        return WRONG_KIND
    if head == "at":
        return values[0][values[1]] if 0 <= values[1] < len(values[0]) else NO_PLACE
    return values[0][values[1]:] if 0 <= values[1] <= len(values[0]) else NO_PLACE


def truth(outcome):
    return outcome if is_fault(outcome) else int(outcome != 0) if is_number(outcome) else WRONG_KIND


def work(tree, bound, own_number, looked):
    """The tree's outcome; the occurrences that are looked at are put behind one another into looked."""
    def come_to(argument):
        return work(argument, bound, own_number, looked)

    head, arguments = tree[0], arguments_of(tree)
    if head == "number":
        return tree[1]
    if head == "own":
        return own_number
    if head == "occurrence":
        looked.append(tree[1:])
        return bound.get(tree[1:], 0)
    if head in ("if", "&", "|"):
        first = truth(come_to(arguments[0]))
        if is_fault(first):
            return first
        if head == "if":
            return come_to(arguments[1] if first else arguments[2])
        return truth(come_to(arguments[1])) if first == (head == "&") else first
    values = []
    for argument in arguments:
        values.append(come_to(argument))
        if is_fault(values[-1]):
            return values[-1]
    return applied(head, values)


def names_nothing(tree):
    return all(part[0] not in ("own", "occurrence") for part in walked(tree))


def known(tree):
    """The outcome of what names nothing, else None."""
    return work(tree, {}, 0, []) if names_nothing(tree) else None


def written(value):
    if is_number(value):
        return ("number", value) if value >= 0 else ("sign-", ("number", -value))
    return ("list", *map(written, value))


def folded(tree):
    if not arguments_of(tree) and tree[0] != "list":
        return tree
    head, arguments = tree[0], [folded(argument) for argument in arguments_of(tree)]
    tree = (head, *arguments)
    outcome = known(tree)
    if outcome is not None and not is_fault(outcome):
        return written(outcome)
    first = known(arguments[0]) if arguments else None
    second = known(arguments[1]) if len(arguments) > 1 else None
    if head == "if" and is_number(first):
        return arguments[2] if first == 0 else arguments[1]
    if head == "&" and is_number(first):
        return ("number", 0) if first == 0 else arguments[1] if sort(arguments[1]) == 2 else tree
    if head == "|" and is_number(first):
        return ("number", 1) if first != 0 else arguments[1] if sort(arguments[1]) == 2 else tree
    neutral = {"+": 0, "-": 0, "*": 1, "/": 1}.get(head)
    if head in ("+", "*") and is_number(first) and first == neutral and sort(arguments[1]) in (1, 2):
        return arguments[1]
    if neutral is not None and is_number(second) and second == neutral and sort(arguments[0]) in (1, 2):
        return arguments[0]
    if head == "sign-" and arguments[0][0] == "sign-" and sort(arguments[0][1]) in (1, 2):
        return arguments[0][1]
    if head == "sign!" and arguments[0][0] == "sign!" and sort(arguments[0][1]) == 2:
        return arguments[0][1]
    return tree


def with_put_in(tree, occurrence, inserted):
    if tree == ("occurrence", *occurrence):
        return inserted
    arguments = arguments_of(tree)
    return (tree[0], *(with_put_in(argument, occurrence, inserted) for argument in arguments)) if arguments else tree


def levels(tree):
    """How many levels the tree's form has, or 31 if these are more than 30."""
    reference = Reference(form(tree))
    try:
        reference.whole()
    except Fault as fault:
        return 31 if fault.args[0] == 5 else reference.most_levels
    return reference.most_levels


def occurrence_rows(found):
    return [len(found), *(number for place, name in found for number in (place, len(name), *name.encode()))]


class Model:
    """The second object. Its methods take what the calls take, with texts as str and outcomes as values."""

    def __init__(self):
        self.tree = None
        self.kept = []
        self.bound = {}
        self.own_number = 0

    def hold(self, tree):
        self.kept = (self.kept + [self.tree])[-8:]
        self.tree = tree

    def read(self, text):
        try:
            tree = Reference(text).whole()
        except Fault as fault:
            return [1, *fault.args]
        self.hold(tree)
        return [0, parts(tree)]

    def form(self):
        return [-2] if self.tree is None else [0, *form(self.tree).encode()]

    def facts(self):
        if self.tree is None:
            return [-2]
        found = walked(self.tree)
        return [0, len(found), levels(self.tree), int(("own",) in found), sort(self.tree),
                *occurrence_rows([part[1:] for part in found if part[0] == "occurrence"])]

    def bind(self, place, name, outcome):
        self.bound[place, name] = outcome
        return [0]

    def free(self, place, name):
        return [0 if self.bound.pop((place, name), None) is None else 1]

    def own(self, number):
        self.own_number = number
        return [0]

    def bindings(self):
        rows = [[place, len(name), *name.encode(), *flat(outcome)] for (place, name), outcome in self.bound.items()]
        return [0, self.own_number, len(rows), *sum(rows, [])]

    def work(self):
        return [-2] if self.tree is None else [0, *flat(work(self.tree, self.bound, self.own_number, []))]

    def seen(self):
        if self.tree is None:
            return [-2]
        looked = []
        work(self.tree, self.bound, self.own_number, looked)
        return [0, *occurrence_rows(list(dict.fromkeys(looked)))]

    @staticmethod
    def given(text):
        try:
            return Reference(text).whole()
        except Fault:
            return None

    def try_out(self, text):
        tree = self.given(text)
        return [-9] if tree is None else [0, *flat(work(tree, self.bound, self.own_number, []))]

    def same(self, text):
        tree = self.given(text)
        return [-9] if tree is None else [-2] if self.tree is None else [int(tree == self.tree)]

    def fold(self):
        if self.tree is None:
            return [-2]
        tree = folded(self.tree)
        if levels(tree) > 30:
            return [-8]
        self.hold(tree)
        return [0, parts(tree)]

    def put(self, place, name, text):
        inserted = self.given(text)
        if inserted is None:
            return [-9]
        if self.tree is None:
            return [-2]
        tree = with_put_in(self.tree, (place, name), inserted)
        if parts(tree) > 60:
            return [-10]
        if levels(tree) > 30:
            return [-8]
        count = walked(self.tree).count(("occurrence", place, name))
        self.hold(tree)
        return [0, count]

    def back(self):
        if not self.kept:
            return [-11]
        self.tree = self.kept.pop()
        return [0]


# The shapes of expressions: n stands for an argument that is rather a number, l for one that is rather a list.
NUMBER_SHAPES = ["n+n", "n-n", "n*n", "n/n", "n%n", "-n", "!n", "n<n", "n=n", "l=l", "n&n", "n|n", "has(l,n)",
                 "has(l,l)", "len(l)", "at(l,n)", "max(n,n)", "min(n,n)", "look(l,n,n)", "if n then n else n", "--n",
                 "!!n", "0+n", "n+0", "n-0", "1*n", "n*1", "n/1", "1&n", "0&n", "0|n", "1|n", "if 1 then n else l"]
LIST_SHAPES = ["[]", "[n]", "[n,n]", "[l]", "[n,l]", "[[n,n],l]", "[[n,l]]", "cat(l,l)", "drop(l,n)", "at(l,n)",
               "look(l,n,l)", "if n then l else l", "if 0 then n else l"]
LEAVES = {"n": ["0", "1", "1", "2", "3", "7", "#", "v", "v", "w", "2.v", str(LARGEST)],
          "l": ["[]", "l", "l", "2.l", "[0,1]", "[[1,2],[v,3]]"]}
# Texts that are no expressions, and some near the limits of parts and levels.
SPECIAL_TEXTS = ["a b", "f(", "_", "-" * 31 + "v", "-" * 20 + "v", "!-" * 14 + "![v, 1 - 5]", "!-" * 14 + "[v, 1 - 5]",
                 "[" + ", ".join("v" * 40) + "]", "[" * 20 + "v" + "]" * 20, "[" * 21 + "]" * 21]
# What is put into an expression, or bound, is drawn from these.
OCCURRENCES = [(0, "v"), (0, "w"), (2, "v"), (0, "l"), (2, "l"), (0, "len")]


def drawn_text(source, depth, kind="nl"):
    kind = source.choice(kind if source.random() < 0.9 else "nl")
    if depth == 0:
        return source.choice(LEAVES[kind])
    shape = source.choice(NUMBER_SHAPES if kind == "n" else LIST_SHAPES)
    text = ""
    for place, sign in enumerate(shape):
        alone = not (shape[place - 1:place].isalpha() or shape[place + 1:place + 2].isalpha())
        if sign in "nl" and alone:
            inner = drawn_text(source, source.randrange(depth), sign)
            text += inner if source.random() < 0.3 else f"({inner})"
        else:
            text += sign
    return text


def drawn_value(source, depth):
    if depth == 0 or source.random() < 0.4:
        return source.choice([0, 1, 2, -1, 7, LARGEST, -LARGEST, source.randrange(-9, 9)])
    return [drawn_value(source, depth - 1) for _ in range(source.randrange(4))]


def drawn_outcome(source, name):
    if source.random() < 0.1:
        return FaultOutcome(source.randrange(1, 6))
    if source.random() < 0.05:
        return [source.randrange(3)] * source.randrange(150, 400)
    value = drawn_value(source, 3)
    wanted = list if name == "l" else int
    return value if isinstance(value, wanted) or source.random() < 0.2 else [value] if name == "l" else len(value)


def drawn_bindings(source):
    return {(place, name): drawn_outcome(source, name) for place, name in OCCURRENCES if source.random() < 0.7}


def drawn_number(source):
    return source.choice([0, 0, 1, 2, -3, LARGEST, -LARGEST])


class Drawn(unittest.TestCase):
    def drawn_expressions(self, seed, count):
        """Texts that are expressions, each with bindings and an own number."""
        source = random.Random(seed)
        found = 0
        while found < count:
            text = drawn_text(source, source.randrange(1, 7))
            if Model.given(text) is not None:
                found += 1
                yield source, text, drawn_bindings(source), drawn_number(source)

    @staticmethod
    def binding_calls(bindings, own_number):
        return [*(bind(place, name, flat(outcome)) for (place, name), outcome in bindings.items()), own(own_number)]


class AgainstTheModel(Drawn):
    def test_expressions(self):
        values = 0
        for _, text, bindings, own_number in self.drawn_expressions(11, 3000):
            model = Model()
            model.read(text)
            model.bound, model.own_number = bindings, own_number
            calls = [read(text), *self.binding_calls(bindings, own_number)]
            found = asked(*calls, WORK, SEEN, try_out(text), FOLD, FORM, FACTS, WORK, SEEN)[len(calls):]
            expected = [model.work(), model.seen(), model.try_out(text), model.fold(), model.form(), model.facts(),
                        model.work(), model.seen()]
            self.assertEqual(found, expected, (text, bindings, own_number))
            values += expected[0][1] != 2
        self.assertGreater(values, 1000)

    def drawn_call(self, source):
        """The numbers of a call, and what it does with a model."""
        place, name = source.choice(OCCURRENCES)
        text = drawn_text(source, source.choice([0, 0, 1, 2, 3, 4]))
        if source.random() < 0.15:
            text = source.choice(SPECIAL_TEXTS)
        outcome = drawn_outcome(source, name)
        number = drawn_number(source)
        return source.choices([
            (read(text), lambda model: model.read(text)),
            (FORM, Model.form),
            (FACTS, Model.facts),
            (bind(place, name, flat(outcome)), lambda model: model.bind(place, name, outcome)),
            (free(place, name), lambda model: model.free(place, name)),
            (own(number), lambda model: model.own(number)),
            (BINDINGS, Model.bindings),
            (WORK, Model.work),
            (SEEN, Model.seen),
            (try_out(text), lambda model: model.try_out(text)),
            (same(text), lambda model: model.same(text)),
            (FOLD, Model.fold),
            (put(place, name, text), lambda model: model.put(place, name, text)),
            (BACK, Model.back),
        ], weights=[8, 5, 3, 8, 2, 2, 2, 8, 6, 3, 3, 8, 16, 6])[0]

    def test_rows_of_calls(self):
        source = random.Random(12)
        firsts = {}
        for _ in range(600):
            drawn = [self.drawn_call(source) for _ in range(source.randrange(1, 61))]
            model = Model()
            expected = [step(model) for _, step in drawn]
            found = asked(*[call for call, _ in drawn])
            self.assertEqual(found, expected)
            for (call, _), answer in zip(drawn, found):
                firsts.setdefault(call[0], set()).add(answer[0])
        self.assertEqual(sorted(firsts), list(range(14)))
        self.assertEqual(firsts[10], {0, 1, -2, -9})
        self.assertEqual(firsts[11], {0, -2, -8})
        self.assertEqual(firsts[12], {0, -2, -8, -9, -10})
        self.assertEqual(firsts[13], {0, -11})


class Promise15(Drawn):
    def test_the_form_is_a_text_that_is_this_expression(self):
        for source, text, _, _ in self.drawn_expressions(13, 700):
            steps = [read(text)]
            for _ in range(source.randrange(5)):
                place, name = source.choice(OCCURRENCES)
                steps.append(source.choice([FOLD, BACK, put(place, name, drawn_text(source, source.randrange(3)))]))
                found = asked(*steps, FORM)[-1]
                if found[0] == 0:
                    self.assertEqual(asked(*steps, same(found[1:]))[-1], [1], steps)
                    read_again, facts = asked(*steps, read(found[1:]), FACTS)[-2:]
                    self.assertEqual(facts, asked(*steps, FACTS)[-1], steps)
                    self.assertEqual(read_again, [0, facts[1]], steps)

    def test_folding_changes_no_outcome_and_gives_no_more_parts(self):
        shorter = 0
        for source, text, bindings, own_number in self.drawn_expressions(14, 700):
            count, folds = asked(read(text), FOLD)
            self.assertEqual(folds[0], 0, text)
            self.assertLessEqual(folds[1], count[1], text)
            shorter += folds[1] < count[1]
            for _ in range(4):
                calls = self.binding_calls(bindings, own_number)
                self.assertEqual(asked(*calls, read(text), WORK)[-1], asked(*calls, read(text), FOLD, WORK)[-1],
                                 (text, bindings, own_number))
                bindings, own_number = drawn_bindings(source), drawn_number(source)
        self.assertGreater(shorter, 300)

    def test_putting_in_gives_the_outcome_that_binding_would_give(self):
        replaced = 0
        for source, text, bindings, own_number in self.drawn_expressions(15, 1500):
            named = [part[1:] for part in walked(Model.given(text)) if part[0] == "occurrence"]
            place, name = source.choice(named or OCCURRENCES)
            inserted = drawn_text(source, source.randrange(3))
            calls = [*self.binding_calls(bindings, own_number), read(text)]
            tried, answer, outcome = asked(*calls, try_out(inserted), put(place, name, inserted), WORK)[-3:]
            if tried[0] == 0 and answer[0] == 0:
                bound_instead = asked(*calls, bind(place, name, tried[1:]), WORK)[-1]
                self.assertEqual(outcome, bound_instead, (text, inserted, bindings, own_number))
                replaced += answer[1] > 0
        self.assertGreater(replaced, 500)


if __name__ == "__main__":
    unittest.main()
