"""The program against a second reader, written rule by rule as the grammar stands and by recursion."""

import random
import re
import unittest

from tests.helper import FACTS, FORM, asked, occurrences, read

COUNTS = {"len": 1, "at": 2, "cat": 2, "look": 3, "drop": 2, "has": 2, "max": 2, "min": 2}
TOKEN = re.compile(r"(?P<name>[a-zA-Z][a-zA-Z0-9]*)|(?P<number>[0-9]+)|(?P<sign>[;:{}()\[\],.=<>+\-*/%&|!?#])")
STRENGTHS = {"|": 2, "&": 3, "=": 4, "<": 4, "+": 5, "-": 5, "*": 6, "/": 6, "%": 6}


class Fault(Exception):
    pass


def tokens_of(text):
    tokens = []
    place = 0
    while place < len(text):
        if text[place] in " \n":
            place += 1
            continue
        found = TOKEN.match(text, place)
        if not found:
            raise Fault(1, place)
        kind, run = found.lastgroup, found.group()
        if kind == "name" and len(run) > 12:
            raise Fault(2, place)
        if kind == "number" and len(run) > 18:
            raise Fault(3, place)
        if kind == "name":
            kind = "word" if run in ("if", "then", "else") else "small" if run[0].islower() else "great"
        tokens.append((kind, run, place))
        place = found.end()
    return tokens + [("end", "", len(text))]


class Reference:
    def __init__(self, text):
        self.tokens = tokens_of(text)
        self.at = 0
        self.levels = 0
        self.most_levels = 0

    def kind(self):
        return self.tokens[self.at][0]

    def sees(self, *runs):
        return self.kind() in ("word", "sign") and self.tokens[self.at][1] in runs

    def place(self):
        return self.tokens[self.at][2]

    def take(self):
        self.at += 1
        return self.tokens[self.at - 1][1]

    def need(self, run):
        if not self.sees(run):
            raise Fault(4, self.place())
        self.take()

    def begin_level(self):
        if self.levels == 30:
            raise Fault(5, self.place())
        self.levels += 1
        self.most_levels = max(self.most_levels, self.levels)

    def whole(self):
        tree = self.expression()
        if parts(tree) > 60:
            raise Fault(7, self.tokens[0][2])
        if self.kind() != "end":
            raise Fault(4, self.place())
        return tree

    def expression(self):
        if not self.sees("if"):
            return self.choice()
        self.begin_level()
        self.take()
        condition = self.expression()
        self.need("then")
        first = self.expression()
        self.need("else")
        second = self.expression()
        self.levels -= 1
        return ("if", condition, first, second)

    def choice(self):
        return self.repeated(self.both, "|")

    def both(self):
        return self.repeated(self.comparison, "&")

    def comparison(self):
        first = self.sum()
        if self.sees("=", "<"):
            return (self.take(), first, self.sum())
        return first

    def sum(self):
        return self.repeated(self.product, "+", "-")

    def product(self):
        return self.repeated(self.signed, "*", "/", "%")

    def repeated(self, rule, *signs):
        tree = rule()
        while self.sees(*signs):
            tree = (self.take(), tree, rule())
        return tree

    def signed(self):
        if not self.sees("-", "!"):
            return self.atom()
        self.begin_level()
        sign = self.take()
        argument = self.signed()
        self.levels -= 1
        return ("sign" + sign, argument)

    def atom(self):
        if self.kind() == "number":
            number = int(self.take())
            if not self.sees("."):
                return ("number", number)
            self.take()
            if self.kind() != "small":
                raise Fault(4, self.place())
            return ("occurrence", number, self.take())
        if self.kind() == "small":
            place = self.place()
            name = self.take()
            return self.call(name, place) if self.sees("(") else ("occurrence", 0, name)
        if self.sees("#"):
            self.take()
            return ("own",)
        if self.sees("("):
            self.begin_level()
            self.take()
            tree = self.expression()
            self.need(")")
            self.levels -= 1
            return tree
        if self.sees("["):
            return ("list", *self.arguments("]"))
        raise Fault(4, self.place())

    def call(self, name, place):
        if name not in COUNTS:
            raise Fault(6, place)
        arguments = self.arguments(")")
        if len(arguments) != COUNTS[name]:
            raise Fault(6, place)
        return (name, *arguments)

    def arguments(self, end):
        self.begin_level()
        self.take()
        found = []
        if not self.sees(end):
            found.append(self.expression())
            while self.sees(","):
                self.take()
                found.append(self.expression())
        self.need(end)
        self.levels -= 1
        return found


def arguments_of(tree):
    return () if tree[0] in ("number", "own", "occurrence") else tree[1:]


def walked(tree):
    """All the parts, those of the arguments from left to right; no recursion, as a sum may have 1500."""
    found = []
    waiting = [tree]
    while waiting:
        part = waiting.pop()
        found.append(part)
        waiting.extend(reversed(arguments_of(part)))
    return found


def parts(tree):
    return len(walked(tree))


def strength(tree):
    if tree[0].startswith("sign"):
        return 7
    return 1 if tree[0] == "if" else STRENGTHS.get(tree[0], 8)


def form(tree):
    head = tree[0]
    if head == "number":
        return str(tree[1])
    if head == "own":
        return "#"
    if head == "occurrence":
        return f"{tree[1]}.{tree[2]}" if tree[1] else tree[2]
    if head == "if":
        return f"if {form(tree[1])} then {form(tree[2])} else {form(tree[3])}"
    if head.startswith("sign"):
        return head[4] + bracketed(tree[1], 7)
    if head in "=<":
        return f"{bracketed(tree[1], 5)} {head} {bracketed(tree[2], 5)}"
    if head in STRENGTHS:
        return f"{bracketed(tree[1], STRENGTHS[head])} {head} {bracketed(tree[2], STRENGTHS[head] + 1)}"
    listed = ", ".join(form(argument) for argument in tree[1:])
    return f"[{listed}]" if head == "list" else f"{head}({listed})"


def bracketed(tree, asked_strength):
    return f"({form(tree)})" if strength(tree) < asked_strength else form(tree)


def sort(tree):
    head = tree[0]
    if head == "number":
        return 2 if tree[1] < 2 else 1
    if head in ("occurrence", "at", "look"):
        return 0
    if head in ("|", "&", "=", "<", "sign!", "has"):
        return 2
    if head in ("list", "cat", "drop"):
        return 3
    if head == "if":
        first, second = sort(tree[2]), sort(tree[3])
        return first if first == second else 1 if {first, second} == {1, 2} else 0
    return 1


def random_text(source, depth):
    """A text that is an expression, with more brackets and blanks than are needed."""
    blank = source.choice(["", "", " ", "\n", "  "])
    leaf = source.choice(["0", "1", "7", "007", "v", "w", "len", "2.v", "0 . w", "#", "[]", "(v)", "9" * 18])
    if depth == 0:
        return blank + leaf
    inner = [random_text(source, source.randrange(depth)) for _ in range(3)]
    shape = source.randrange(10)
    if shape == 0:
        return f"(if {inner[0]} then {inner[1]} else {inner[2]}{blank})"
    if shape == 1:
        return f"{blank}[" + ",".join(inner[:source.randrange(4)]) + "]"
    if shape == 2:
        name = source.choice(sorted(COUNTS))
        return name + blank + "(" + ",".join(inner[:COUNTS[name]]) + ")"
    if shape == 3:
        return source.choice("-!") + blank + "(" + inner[0] + ")"
    if shape == 4:
        return source.choice("-!") + inner[0]
    if shape == 5:
        return f"({inner[0]}){blank}{source.choice('|&=<+-*/%')}({inner[1]})"
    return f"{inner[0]}{blank}{source.choice('|&+-*/%=<')}{inner[1]}"


PIECES = ["if ", "then ", "else ", "a", "b ", "Ab ", "1", "2.", "len(", "max(", "look(", "f(", "(", ")", "[", "]", ",",
          "=", "<", "+", "-", "*", "/", "%", "&", "|", "!", "#", ".", " ", "\n", ";", "_", "0" * 17, "x" * 6]


def spoiled(source, text):
    """The text with a piece put in, taken out, or put in the place of another."""
    place = source.randrange(len(text) + 1)
    return text[:place] + source.choice(PIECES + [""]) + text[place + source.randrange(3):]


class AgainstTheReference(unittest.TestCase):
    def check(self, text):
        read_answer, form_answer, facts = asked(read(text), FORM, FACTS)
        try:
            tree = Reference(text).whole()
        except Fault as fault:
            self.assertEqual(read_answer, [1, *fault.args], text)
            return False
        found_form = bytes(form_answer[1:]).decode("ascii")
        again = Reference(found_form)
        self.assertEqual(read_answer, [0, parts(tree)], text)
        self.assertEqual(found_form, form(tree), text)
        self.assertEqual(again.whole(), tree, text)
        self.assertEqual(asked(read(found_form), FORM, FACTS), [read_answer, form_answer, facts])
        names_own = int(any(part[0] == "own" for part in walked(tree)))
        self.assertEqual(facts[:5], [0, parts(tree), again.most_levels, names_own, sort(tree)], text)
        self.assertEqual(occurrences(facts[5:]), [part[1:] for part in walked(tree) if part[0] == "occurrence"])
        return True

    def test_random_expressions(self):
        source = random.Random(1)
        good = sum(self.check(random_text(source, source.randrange(7))) for _ in range(1500))
        self.assertGreater(good, 500)

    def test_spoiled_expressions(self):
        source = random.Random(2)
        for _ in range(1500):
            text = random_text(source, source.randrange(6))
            for _ in range(1 + source.randrange(2)):
                text = spoiled(source, text)
            self.check(text)

    def test_random_pieces(self):
        source = random.Random(3)
        for _ in range(1500):
            self.check("".join(source.choices(PIECES[:-4], k=source.randrange(12))))

    def test_deep_and_long_texts(self):
        source = random.Random(4)
        for _ in range(1000):
            deep = "".join(source.choices(["(", "[", "-", "!", "len(", "if ", "1 + (", "if a then "],
                                          k=source.randrange(25, 36)))
            self.check(deep + source.choice(["a", "if", "f(", ")", "len(a", "a b", "[]"]))
            long = "".join(source.choices(["a", "1 + 1", "-a", "[a, b]"])) + "".join(
                source.choices(["+1", "*a", "-2.a", "|!a", "<#"], k=source.randrange(10, 34)))
            self.check(source.choice(["", " "]) + long + source.choice(["", "", " b", ")", "+", "<1"]))


if __name__ == "__main__":
    unittest.main()
