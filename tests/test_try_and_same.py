import unittest

from tests.helper import (BACK, BINDINGS, FACTS, FORM, NO_EXPRESSIONS, SEEN, TOO_LONG, WORK, asked, bind, flat, last,
                          own, read, same, try_out)


class Try(unittest.TestCase):
    def test_the_outcome_under_the_bindings_and_the_own_number(self):
        calls = [bind(0, "v", flat([1, [2]])), bind(3, "w", [2, 4]), own(-6)]
        for text, outcome in {"v": [1, 2, 0, 1, 1, 1, 0, 2], "3.w": [2, 4], "w": [0, 0], "#": [0, -6],
                              "# * len(v)": [0, -12], "1 / 0": [2, 3], "[#, v = v]": [1, 2, 0, -6, 0, 1],
                              "3.w + v": [2, 4], "v + 3.w": [2, 4], "0 & 3.w": [0, 0]}.items():
            self.assertEqual(last(*calls, try_out(text)), [0, *outcome], text)
            self.assertEqual(last(*calls, read(text), WORK), [0, *outcome], text)

    def test_none_need_be_held(self):
        self.assertEqual(asked(try_out("1 + 1"), FORM, BACK), [[0, 0, 2], [-2], [-11]])

    def test_nothing_is_changed(self):
        calls = [read("v + #"), bind(0, "v", [0, 3]), own(4)]
        look = [FORM, FACTS, BINDINGS, WORK, SEEN, BACK, FORM, BACK]
        for text in ["w", "v", "1 / 0", "a b", "a" * 3001]:
            self.assertEqual(asked(*calls, try_out(text), *look)[4:], asked(*calls, *look)[3:], text)

    def test_texts_of_3000_and_3001_bytes(self):
        self.assertEqual(last(try_out("7" + " " * 2999)), [0, 0, 7])
        for text in TOO_LONG:
            self.assertEqual(last(try_out(text)), [-1])

    def test_texts_that_are_no_expressions(self):
        for text in NO_EXPRESSIONS:
            self.assertEqual(last(try_out(text)), [-9], text)
            self.assertEqual(last(read("a"), try_out(text)), [-9], text)

    def test_60_parts_and_30_levels(self):
        self.assertEqual(last(try_out("-1" + "+1" * 29)), [0, 0, 28])
        self.assertEqual(last(try_out("-" * 30 + "7")), [0, 0, 7])


class Same(unittest.TestCase):
    def expect(self, held, text, answer):
        self.assertEqual(last(read(held), same(text)), [answer], (held, text))
        self.assertEqual(last(read(text), same(held)), [answer], (held, text))

    def test_the_same_expressions(self):
        self.expect("v", "0.v", 1)
        self.expect("v", "000 . v", 1)
        self.expect("7", "007", 1)
        self.expect("7.v", "007.v", 1)
        self.expect("a+b", " ( (a) + ((b))\n) ", 1)
        self.expect("a - b - c", "(a - b) - c", 1)
        self.expect("a | b & c", "a | (b & c)", 1)
        self.expect("if a then b else c", "(if (a) then (b) else (c))", 1)
        self.expect("[]", "[ ]", 1)
        self.expect("-(-a)", "--a", 1)
        self.expect("look(a, [1], #)", "look((a),[(1)],(#))", 1)

    def test_numbers_and_names_that_differ(self):
        different = ["0", "1", "7", "70", "v", "w", "vv", "vV", "1.v", "7.v", "1.w", "#", "[]"]
        for place, held in enumerate(different):
            for other, text in enumerate(different):
                self.expect(held, text, int(place == other))

    def test_trees_that_differ(self):
        different = ["a - b - c", "a - (b - c)", "a - b + c", "a + b - c", "a - b", "b - a", "-a", "!a", "--a", "[a]",
                     "[a, b]", "[b, a]", "[[a], b]", "[a, [b]]", "[[a, b]]", "[[], a]", "[[a]]", "[a, []]", "max(a, b)",
                     "min(a, b)", "at(a, b)", "cat(a, b)", "drop(a, b)", "has(a, b)", "len(a)", "len", "a = b", "a < b",
                     "a & b", "a | b", "a * b", "a / b", "a % b", "if a then b else c", "if a then c else b",
                     "look(a, b, c)", "[a, b, c]", "-a - b", "-(a - b)", "!-a", "-!a"]
        for place, held in enumerate(different):
            for other, text in enumerate(different):
                self.expect(held, text, int(place == other))

    def test_equal_outcomes_do_not_make_them_the_same(self):
        self.expect("2", "1 + 1", 0)
        self.expect("v + 0", "v", 0)
        self.expect("a + b", "b + a", 0)

    def test_the_form_is_the_same(self):
        for text in ["(a*(2))-(3-1)|!(#<0)&1", "if 1 then 2 else [0.v, 007]"]:
            form = last(read(text), FORM)[1:]
            self.assertEqual(last(read(text), same(form)), [1])

    def test_the_refusals_in_their_order(self):
        for text in TOO_LONG:
            self.assertEqual(last(same(text)), [-1])
            self.assertEqual(last(read("a"), same(text)), [-1])
        for text in NO_EXPRESSIONS:
            self.assertEqual(last(same(text)), [-9], text)
            self.assertEqual(last(read("a"), same(text)), [-9], text)
        self.assertEqual(last(same("a")), [-2])
        self.assertEqual(last(read("a b"), same("a")), [-2])
        self.assertEqual(last(read("a"), same("a" + " " * 2999)), [1])

    def test_nothing_is_changed(self):
        calls = [read("v + #"), bind(0, "v", [0, 3]), own(4)]
        look = [FORM, FACTS, BINDINGS, WORK, SEEN, BACK, FORM, BACK]
        for text in ["v + #", "v", "a b", "a" * 3001]:
            self.assertEqual(asked(*calls, same(text), *look)[4:], asked(*calls, *look)[3:], text)


if __name__ == "__main__":
    unittest.main()
