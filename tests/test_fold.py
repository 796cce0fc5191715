import unittest

from tests.helper import (BACK, BINDINGS, FACTS, FOLD, FORM, LARGEST, WORK, asked, bind, form_behind, form_of, last,
                          own, read)

# Texts of each sort that name something and are not folded any further.
SORTED = {0: ["v", "at(v, 1)", "look(v, 1, 2)", "if v then 2 else []", "if v then w else 1"],
          1: ["#", "-v", "v + w", "len(v)", "max(v, 1)", "if v then 2 else 1"],
          2: ["v = w", "v < 2", "!v", "has(v, 1)", "v & w", "v | w", "if v then 0 else 1"],
          3: ["[v]", "cat(v, w)", "drop(v, 1)", "if v then [] else [1]"]}
NUMERIC = SORTED[1] + SORTED[2]
UNSURE = SORTED[0] + SORTED[3]
# Texts that name nothing, with a fault as their outcome.
FAULTY = ["1 / 0", "-[]", "at([], 0)", "1 + []", "!(1 / 0)"]


def signs_in_turns(count, inner):
    return "".join("!-"[place % 2] for place in range(count)) + inner


class FoldTest(unittest.TestCase):
    def expect(self, text, form):
        self.assertEqual(form_behind(read(text), FOLD), form, text)
        parts = last(read(form), FACTS)[1]
        self.assertEqual(last(read(text), FOLD), [0, parts], text)

    def expect_to_stay(self, text):
        self.expect(text, form_of(text))


class Calls(FoldTest):
    def test_none_is_held(self):
        self.assertEqual(asked(FOLD, BACK), [[-2], [-11]])
        self.assertEqual(asked(read("a b"), FOLD), [[1, 4, 2], [-2]])

    def test_the_examples(self):
        self.expect("if 1 < 2 then -(3 - 5) * v else 1 / 0", "2 * v")
        self.expect("0 + len(v) * 1 - 0", "len(v)")
        self.expect_to_stay("v + 0")
        self.expect("[1 + 1, 1 / 0]", "[2, 1 / 0]")
        self.expect("7 & (a = b)", "a = b")
        self.expect("3 - 5", "-2")

    def test_what_is_folded_is_held(self):
        found = asked(read("1 + 1"), FOLD, FORM, FACTS, WORK, FOLD, FORM)
        self.assertEqual(found, [[0, 3], [0, 1], [0, 50], [0, 1, 0, 0, 1, 0], [0, 0, 2], [0, 1], [0, 50]])

    def test_bindings_and_the_own_number_are_not_looked_at(self):
        calls = [bind(0, "v", [0, 3]), own(7), read("v + # * (1 + 1)"), FOLD]
        self.assertEqual(form_behind(*calls), "v + # * 2")
        self.assertEqual(last(*calls, BINDINGS), [0, 7, 1, 0, 1, 118, 0, 3])

    def test_leaves_stay(self):
        for text in ["0", "7", str(LARGEST), "#", "v", "3.v", "[]"]:
            self.expect_to_stay(text)

    def test_all_arguments_are_folded_first(self):
        self.expect("[1 + 1, [v, 2 * 3], -(4 - 5)]", "[2, [v, 6], 1]")
        self.expect("look(1 + v, 2 + 3, 4 - 5)", "look(1 + v, 5, -1)")
        self.expect("if v then 1 + 1 else 2 + 2", "if v then 2 else 4")
        self.expect("v & 1 + 1 | 2 * 2", "v & 2 | 4")
        self.expect("-(v + (1 + 2))", "-(v + 3)")
        self.expect("if 0 then v else 1 + 1", "2")


class Rule1(FoldTest):
    """What names nothing and has a value becomes that value."""

    def test_each_operation(self):
        for text, form in {"1 + 2": "3", "2 - 1": "1", "2 * 3": "6", "7 / 2": "3", "7 % 2": "1", "-0": "0", "-5": "-5",
                           "--5": "5", "!5": "0", "!0": "1", "1 < 2": "1", "1 = 2": "0", "5 & 7": "1", "0 | 7": "1",
                           "max(1, 2)": "2", "min(1, 2)": "1", "len([1, 2])": "2", "at([1, [2]], 1)": "[2]",
                           "cat([1], [2])": "[1, 2]", "drop([1, 2], 1)": "[2]", "has([1], 1)": "1",
                           "look([[1, 2]], 1, 0)": "2", "if 1 then 2 else 3": "2", "[1 + 1]": "[2]"}.items():
            self.expect(text, form)

    def test_values_written_as_expressions(self):
        self.expect("7 - 9", "-2")
        self.expect("0 - 0", "0")
        self.expect(f"0 - {LARGEST}", f"-{LARGEST}")
        self.expect("cat([1 - 3, [2, []]], [[0 - 1], 5])", "[-2, [2, []], [-1], 5]")
        self.expect("drop([[1, 2], [3, [4, 5], 6], []], 1)", "[[3, [4, 5], 6], []]")
        self.expect("cat([], [])", "[]")
        self.expect("at([1, -2, [-3, [4]]], 2)", "[-3, [4]]")

    def test_a_number_below_0_gets_the_brackets_of_a_sign(self):
        self.expect("v - (3 - 5)", "v - -2")
        self.expect("v * (3 - 5)", "v * -2")
        self.expect("!-(v * (3 - 5))", "!-(v * -2)")
        self.expect("(3 - 5) * v", "-2 * v")

    def test_the_outcome_need_not_hang_on_faults(self):
        self.expect("0 & 1 / 0", "0")
        self.expect("1 | 1 / 0", "1")
        self.expect("if 1 then 2 else 1 / 0", "2")
        self.expect("if 0 then 1 / 0 else []", "[]")

    def test_not_with_a_fault(self):
        for text in FAULTY + [f"{LARGEST} + 1", "[1 / 0]", "len(3)", "if [] then 1 else 2", "[] & 1", "1 & []",
                              "drop([], 1)", "if 1 / 0 then 1 else 2", "1 / 0 & 1"]:
            self.expect_to_stay(text)
        self.expect("len(1 + 2)", "len(3)")

    def test_not_what_names_something(self):
        for text in ["# - #", "v * 0", "0 * v", "v = v", "# = #", "max(#, 1)", "at([1, v], 0)", "len([v])",
                     "look([[1, 2]], 1, v)", "has([v], 1)", "drop([v], 1)", "cat([], v)", "[#]", "# < #", "0 / #"]:
            self.expect_to_stay(text)

    def test_lists_of_the_depth_20_and_21(self):
        self.expect("[" * 20 + "1 + 1" + "]" * 20, "[" * 20 + "2" + "]" * 20)
        self.expect("[" * 21 + "1 + 1" + "]" * 21, "[" * 21 + "2" + "]" * 21)
        self.expect("len(" + "[" * 20 + "]" * 20 + ")", "1")
        self.expect_to_stay("len(" + "[" * 21 + "]" * 21 + ")")


class Rule2(FoldTest):
    """An if whose first argument is known."""

    def test_where_it_fits(self):
        self.expect("if 1 then v else w", "v")
        self.expect("if 3 - 5 then v else w", "v")
        self.expect("if 0 then v else w", "w")
        self.expect("if 1 - 1 then v else [w]", "[w]")
        self.expect("if 1 then 1 / 0 else v", "1 / 0")
        self.expect("if 0 then v else 2", "2")
        self.expect("if len([]) = 0 then v + 1 else w", "v + 1")

    def test_where_it_does_not(self):
        for condition in ["#", "v", "[]", "[1]", "v = v", *FAULTY]:
            self.expect_to_stay(f"if {condition} then v else w")
            self.expect_to_stay(f"if {condition} then 1 else 1")

    def test_what_is_taken_is_not_folded_again(self):
        self.expect("0 + (if v then 1 else w)", "0 + (if v then 1 else w)")
        self.expect("if 1 then --v else 2", "--v")

    def test_what_it_gives_is_known_further_out(self):
        self.expect("1 + (if 1 then 2 else v)", "3")
        self.expect("if (if 0 then v else 1) then w else 2", "w")


class Rules3And4(FoldTest):
    """& and | whose first argument is known."""

    def test_where_the_first_decides(self):
        for text in [*NUMERIC, *UNSURE, "1 / 0"]:
            self.expect(f"0 & ({text})", "0")
            self.expect(f"1 | ({text})", "1")
            self.expect(f"(3 - 5) | ({text})", "1")
            self.expect(f"1 - 1 & ({text})", "0")

    def test_a_second_of_the_sort_2(self):
        for text in SORTED[2]:
            self.expect(f"7 & ({text})", text)
            self.expect(f"3 - 5 & ({text})", text)
            self.expect(f"0 | ({text})", text)
        self.expect("1 & (1 / 0 = 1)", "1 / 0 = 1")
        self.expect("0 | (1 / 0 = 1)", "1 / 0 = 1")

    def test_a_second_of_another_sort(self):
        for text in [*SORTED[0], *SORTED[1], *SORTED[3], "1 / 0"]:
            self.expect_to_stay(f"7 & ({text})")
            self.expect_to_stay(f"0 | ({text})")
        self.expect("1 + 1 & v", "2 & v")
        self.expect("1 - 1 | v", "0 | v")

    def test_a_first_that_is_not_known(self):
        for text in ["v", "#", "[]", "[1]", *FAULTY]:
            self.expect_to_stay(f"{text} & (v = w)")
            self.expect_to_stay(f"{text} | (v = w)")

    def test_a_second_that_is_known(self):
        for text in ["0", "1", "7", "[]", "1 / 0"]:
            self.expect_to_stay(f"v & {text}")
            self.expect_to_stay(f"v | {text}")
            self.expect_to_stay(f"v = w & {text}")

    def test_what_it_gives_is_known_further_out(self):
        self.expect("1 + (0 & v)", "1")
        self.expect("[1 | v, 2]", "[1, 2]")
        self.expect("1 & (1 | v)", "1")


class Rules5To7(FoldTest):
    """The numbers 0 and 1 that change nothing."""

    def test_a_sum_with_0(self):
        for text in NUMERIC:
            self.expect(f"0 + ({text})", text)
            self.expect(f"({text}) + 0", text)
            self.expect(f"(1 - 1) + ({text})", text)
            self.expect(f"({text}) + (1 - 1)", text)
        self.expect("0 + 1 / 0", "1 / 0")
        self.expect("1 / 0 + 0", "1 / 0")

    def test_a_difference_with_0(self):
        for text in NUMERIC:
            self.expect(f"({text}) - 0", text)
            self.expect(f"({text}) - -0", text)
            self.expect_to_stay(f"0 - ({text})")
        self.expect("1 / 0 - 0", "1 / 0")
        self.expect_to_stay("0 - 1 / 0")

    def test_a_product_with_1(self):
        for text in NUMERIC:
            self.expect(f"1 * ({text})", text)
            self.expect(f"({text}) * 1", text)
            self.expect(f"({text}) * (3 - 2)", text)
        self.expect("1 * -[]", "-[]")
        self.expect("-[] * 1", "-[]")

    def test_a_quotient_with_1(self):
        for text in NUMERIC:
            self.expect(f"({text}) / 1", text)
            self.expect(f"({text}) / (3 - 2)", text)
            self.expect_to_stay(f"1 / ({text})")
        self.expect("-[] / 1", "-[]")

    def test_what_is_not_surely_a_number(self):
        for text in UNSURE:
            for sign, number in ["+0", "-0", "*1", "/1"]:
                self.expect_to_stay(f"({text}) {sign} {number}")
            for number, sign in ["0+", "1*"]:
                self.expect_to_stay(f"{number} {sign} ({text})")
        for text in ["[1 / 0]", "at([], 0)", "if 1 / 0 then [] else 1"]:
            self.expect_to_stay(f"0 + ({text})")
            self.expect_to_stay(f"({text}) / 1")

    def test_other_numbers(self):
        for text in NUMERIC:
            for sign, number in ["+1", "-1", "*0", "/0", "*2", "/2", "%1", "%0", "=0", "<0"]:
                self.expect_to_stay(f"({text}) {sign} {number}")
            for number, sign in ["1+", "0*", "2*", "0/", "0%", "1%"]:
                self.expect_to_stay(f"{number} {sign} ({text})")
            self.expect_to_stay(f"({text}) + -1")
            self.expect_to_stay(f"-1 * ({text})")

    def test_what_is_not_known(self):
        for text in ["v", "[]", "#"]:
            for sign in "+-*/":
                self.expect_to_stay(f"len(v) {sign} {text}")
                self.expect_to_stay(f"{text} {sign} len(v)")

    def test_max_and_min_have_no_such_rule(self):
        self.expect_to_stay("max(0, len(v))")
        self.expect_to_stay("min(len(v), 1)")

    def test_done_once(self):
        self.expect("0 + (0 + v)", "0 + v")
        self.expect("0 + (v + 0)", "v + 0")
        self.expect("1 * (1 * v)", "1 * v")
        self.expect("v - 0 - 0", "v - 0")
        self.expect("v / 1 / 1 / 1", "v / 1")


class Rule8(FoldTest):
    """A sign that stands twice."""

    def test_two_signs_before_a_number(self):
        for text in NUMERIC:
            if not text.startswith("-"):
                self.expect(f"--({text})", text)
                self.expect(f"-(-({text}) * 1)", text)
        for text in UNSURE:
            self.expect(f"--({text})", form_of(f"--({text})"))
        self.expect("--(1 / 0)", "1 / 0")

    def test_two_signs_before_a_truth(self):
        for text in SORTED[2]:
            if not text.startswith("!"):
                self.expect(f"!!({text})", text)
        for text in [*UNSURE, *SORTED[1]]:
            self.expect_to_stay(f"!!({text})")
        self.expect("!!(1 / 0 = 0)", "1 / 0 = 0")
        self.expect_to_stay("!!(1 / 0)")

    def test_different_signs(self):
        for text in ["v", "#", "v = w", "[v]"]:
            self.expect_to_stay(f"-!({text})")
            self.expect_to_stay(f"!-({text})")

    def test_one_sign(self):
        for text in ["v", "#", "v = w", "[v]", "v - w"]:
            self.expect_to_stay(f"-({text})")
            self.expect_to_stay(f"!({text})")

    def test_a_minus_of_two_arguments_is_no_sign(self):
        self.expect_to_stay("-(v - #)")
        self.expect_to_stay("0 - -len(v)")

    def test_rows_of_signs(self):
        self.expect("---v", "-v")
        self.expect("----v", "--v")
        self.expect("!!!v", "!v")
        self.expect("!!!!v", "!!v")
        self.expect("---#", "-#")
        self.expect("----#", "#")
        self.expect("-" * 30 + "v", "--v")
        self.expect("-" * 29 + "v", "-v")
        self.expect("--!!(v = w)", "v = w")


class Levels(FoldTest):
    def test_more_than_30_levels(self):
        text = signs_in_turns(29, "[x, 1 - 5]")
        calls = [read(text), bind(0, "x", [0, 3]), own(2)]
        look = [FORM, FACTS, WORK, BINDINGS, BACK, FORM, BACK]
        self.assertEqual(asked(*calls, FOLD)[3], [-8])
        self.assertEqual(asked(*calls, FACTS)[3][:3], [0, 34, 30])
        self.assertEqual(asked(*calls, FOLD, *look)[4:], asked(*calls, *look)[3:])

    def test_30_levels(self):
        self.expect(signs_in_turns(28, "[x, 1 - 5]"), signs_in_turns(28, "[x, -4]"))
        self.expect(signs_in_turns(29, "[x, 5 - 1]"), signs_in_turns(29, "[x, 4]"))
        self.expect(signs_in_turns(29, "[x, 5 - 5]"), signs_in_turns(29, "[x, 0]"))

    def test_those_of_the_form_count(self):
        self.expect(signs_in_turns(28, "(x + (1 - 5))"), signs_in_turns(28, "(x + -4)"))
        self.expect(signs_in_turns(29, "(5 - 1 + x)"), signs_in_turns(29, "(4 + x)"))
        self.assertEqual(last(read(signs_in_turns(29, "(1 - 5 + x)")), FOLD), [-8])
        self.assertEqual(last(read(signs_in_turns(28, "(1 - 5 + x)")), FOLD), [0, 32])

    def test_folding_may_take_levels_away(self):
        self.expect("-" * 30 + "#", "#")
        self.expect("[" * 28 + "-(1 - 1)" + "]" * 28, "[" * 28 + "0" + "]" * 28)


class Outcomes(FoldTest):
    def test_folding_changes_no_outcome_and_gives_no_more_parts(self):
        texts = [*NUMERIC, *UNSURE, *FAULTY]
        shapes = ["0 + ({})", "({}) + 0", "({}) - 0", "1 * ({})", "({}) * 1", "({}) / 1", "--({})", "!!({})",
                  "0 & ({})", "2 & ({})", "0 | ({})", "2 | ({})", "if 1 then ({}) else 0", "if 0 then 0 else ({})",
                  "if ({}) then 1 else 0", "[({}), 1 + 1]"]
        outcomes = [[0, 0], [0, 1], [0, -7], [0, LARGEST], [1, 0], [1, 2, 0, 1, 1, 2, 0, 1, 0, 0], [2, 3], [2, 5]]
        for text in [shape.format(text) for shape in shapes for text in texts]:
            for outcome in outcomes:
                found = asked(bind(0, "v", outcome), bind(0, "w", [0, 1]), own(-LARGEST), read(text), WORK, FOLD, WORK)
                self.assertEqual(found[4], found[6], text)
                self.assertLessEqual(found[5][1], found[3][1], text)


if __name__ == "__main__":
    unittest.main()
