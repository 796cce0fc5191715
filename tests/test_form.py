import unittest

from tests.helper import FORM, asked, facts_of, form_of, last, read


class FormTest(unittest.TestCase):
    def expect(self, text, form):
        self.assertEqual(form_of(text), form)
        self.assertEqual(form_of(form), form)
        self.assertEqual(facts_of(form), facts_of(text))

    def test_no_expression_is_held(self):
        self.assertEqual(last(FORM), [-2])
        self.assertEqual(last(read("a b"), FORM), [-2])
        self.assertEqual(last(read("a" * 3001), FORM), [-2])

    def test_the_answer_is_0_and_the_bytes(self):
        self.assertEqual(asked(read("a+1"), FORM), [[0, 3], [0, 97, 32, 43, 32, 49]])

    def test_the_example(self):
        self.expect("(a*(2))-(3-1)|!(#<0)&1", "a * 2 - (3 - 1) | !(# < 0) & 1")

    def test_atoms(self):
        self.expect("007", "7")
        self.expect("000", "0")
        self.expect("999999999999999999", "999999999999999999")
        self.expect(" # ", "#")
        self.expect("0.v", "v")
        self.expect("00012 . aB3", "12.aB3")
        self.expect("999999999999999999.abcdefghijkl", "999999999999999999.abcdefghijkl")
        self.expect("((v))", "v")

    def test_lists(self):
        self.expect("[ ]", "[]")
        self.expect("[1]", "[1]")
        self.expect("[1,(a),[[],-2]]", "[1, a, [[], -2]]")

    def test_calls(self):
        self.expect("len((a))", "len(a)")
        for name in ["at", "cat", "drop", "has", "max", "min"]:
            self.expect(f"{name} (a,b)", f"{name}(a, b)")
        self.expect("look(a,b,c)", "look(a, b, c)")

    def test_operators_of_two_arguments(self):
        for sign in "|&=<+-*/%":
            self.expect(f"a{sign}b", f"a {sign} b")

    def test_signs_of_one_argument(self):
        self.expect("- a", "-a")
        self.expect("! a", "!a")
        self.expect("-(-(!(!a)))", "--!!a")
        self.expect("a-(-b)", "a - -b")
        self.expect("a*(-b)", "a * -b")
        self.expect("(-a)*b", "-a * b")
        self.expect("-(a*b)", "-(a * b)")
        self.expect("-([a])", "-[a]")
        self.expect("-(len(a))", "-len(a)")

    def test_if(self):
        self.expect("if(a)then(b)else(c)", "if a then b else c")
        self.expect("if(if a then b else c)then(if d then e else f)else(if g then h else i)",
                    "if if a then b else c then if d then e else f else if g then h else i")
        self.expect("[(if a then b else c),1]", "[if a then b else c, 1]")
        self.expect("len((if a then b else c))", "len(if a then b else c)")
        self.expect("-(if a then b else c)", "-(if a then b else c)")
        self.expect("1|(if a then b else c)", "1 | (if a then b else c)")
        self.expect("(if a then b else c)|1", "(if a then b else c) | 1")
        self.expect("if a then b else(c|d)", "if a then b else c | d")

    def test_brackets_where_the_strength_is_less_than_asked(self):
        strengths = {"|": 2, "&": 3, "=": 4, "<": 4, "+": 5, "-": 5, "*": 6, "/": 6, "%": 6}
        for outer, strength in strengths.items():
            first, second = (5, 5) if outer in "=<" else (strength, strength + 1)
            for inner, inner_strength in strengths.items():
                within = f"a {inner} b"
                left = within if inner_strength >= first else f"({within})"
                right = within if inner_strength >= second else f"({within})"
                self.expect(f"({within}) {outer} c", f"{left} {outer} c")
                self.expect(f"c {outer} ({within})", f"c {outer} {right}")
                self.expect(f"-({within})", f"-({within})")
                self.expect(f"!({within})", f"!({within})")
                self.expect(f"[({within})]", f"[{within}]")
                self.expect(f"at(({within}), ({within}))", f"at({within}, {within})")
                self.expect(f"if ({within}) then ({within}) else ({within})",
                            f"if {within} then {within} else {within}")

    def test_the_form_of_the_last_expression_that_was_read(self):
        self.assertEqual(asked(read("a"), FORM, read("b"), FORM, read("b c"), FORM),
                         [[0, 1], [0, 97], [0, 1], [0, 98], [1, 4, 2], [0, 98]])

    def test_brackets_that_are_not_needed_open_no_levels(self):
        self.expect("-(" * 15 + "a + b" + ")" * 15, "-" * 15 + "(a + b)")
        self.expect("(" * 29 + "if a then b else c" + ")" * 29, "if a then b else c")
        self.expect("-" * 29 + "(a + b)", "-" * 29 + "(a + b)")


if __name__ == "__main__":
    unittest.main()
