import unittest

from tests.helper import (BY_ZERO, FACTS, FORM, LARGEST, NO_PLACE, OUT_OF_RANGE, TOO_LARGE, WORK, WRONG_KIND, asked,
                          bind, bound, flat, free, last, own, read)

# Texts that have a fault as their outcome, whatever is bound.
FAULTS = {"(1 + [])": WRONG_KIND, f"({LARGEST} + 1)": OUT_OF_RANGE, "(1 / 0)": BY_ZERO, "at([], 0)": NO_PLACE,
          "[" * 21 + "]" * 21: TOO_LARGE}

# The kinds that each argument may have: n a number, l a list, both any.
KINDS = {"-{}": ["n"], "!{}": ["n"], "len({})": ["l"], "at({}, {})": ["l", "n"], "drop({}, {})": ["l", "n"],
         "cat({}, {})": ["l", "l"], "look({}, {}, {})": ["l", "nl", "nl"], "has({}, {})": ["l", "nl"],
         "max({}, {})": ["n", "n"], "min({}, {})": ["n", "n"], "{} = {}": ["nl", "nl"], "{} < {}": ["n", "n"],
         "{} + {}": ["n", "n"], "{} - {}": ["n", "n"], "{} * {}": ["n", "n"], "{} / {}": ["n", "n"],
         "{} % {}": ["n", "n"], "[{}]": ["nl"], "[{}, {}]": ["nl", "nl"], "[{}, {}, {}]": ["nl", "nl", "nl"]}
VALUES = {"n": "1", "l": "[3, 4]"}


def nested(depth, *inmost):
    """A list of this depth, whose inmost list has these members."""
    value = list(inmost)
    for _ in range(depth - 1):
        value = [value]
    return value


class WorkTest(unittest.TestCase):
    def expect(self, text, outcome, own_number=0, **given):
        calls = [*bound(given), own(own_number), read(text), WORK]
        answered = asked(*calls)
        self.assertEqual(answered[-2][0], 0, text)
        self.assertEqual(answered[-1], [0, *flat(outcome)], text)


class Leaves(WorkTest):
    def test_none_is_held(self):
        self.assertEqual(last(WORK), [-2])
        self.assertEqual(asked(read("a b"), own(3), bind(0, "a", [0, 1]), WORK)[-1], [-2])

    def test_numbers(self):
        for number in [0, 1, 7, LARGEST]:
            self.expect(str(number), number)
        self.expect("007", 7)

    def test_the_own_number(self):
        for number in [0, 1, -5, LARGEST, -LARGEST]:
            self.expect("#", number, own_number=number)
        self.assertEqual(last(read("#"), WORK), [0, 0, 0])
        self.assertEqual(last(read("#"), own(5), own(LARGEST + 1), WORK), [0, 0, 5])

    def test_occurrences(self):
        for outcome in [3, -LARGEST, [], [[1, 5], 3], WRONG_KIND, OUT_OF_RANGE, BY_ZERO, NO_PLACE, TOO_LARGE]:
            self.expect("v", outcome, v=outcome)

    def test_an_occurrence_without_a_binding_is_0(self):
        self.expect("v", 0)
        self.expect("7.v", 0, v=3)
        self.expect("w", 0, v=3)
        self.assertEqual(last(bind(0, "v", [0, 3]), read("v"), free(0, "v"), WORK), [0, 0, 0])

    def test_place_and_name_make_the_occurrence(self):
        calls = bound({(0, "v"): 1, (1, "v"): 20, (LARGEST, "v"): 300, (1, "w"): 4000})
        self.assertEqual(last(*calls, read(f"v + 1.v + {LARGEST}.v + 1.w"), WORK), [0, 0, 4321])
        self.assertEqual(last(*calls, read("0.v + 001.w"), WORK), [0, 0, 4001])

    def test_the_last_binding_counts(self):
        self.assertEqual(last(bind(0, "v", [0, 3]), bind(0, "v", [1, 0]), read("v"), WORK), [0, 1, 0])

    def test_bindings_may_come_before_and_behind_reading(self):
        self.assertEqual(asked(read("v + #"), WORK, bind(0, "v", [0, 4]), WORK, own(3), WORK, free(0, "v"), WORK)[1::2],
                         [[0, 0, 0], [0, 0, 4], [0, 0, 7], [0, 0, 3]])


class TheExamples(WorkTest):
    def test_them(self):
        for text, outcome in {"look(v, 1, 0)": 5, "at(v, 3)": NO_PLACE, "v + 1 / 0": BY_ZERO, "v / 0": WRONG_KIND,
                              "0 & v + 1": 0, "-7 / 2": -4, "-7 % 2": 1, "7 % -2": -1}.items():
            self.expect(text, outcome, v=[[1, 5], 3, [1, 6]])

    def test_the_flat_form(self):
        self.assertEqual(last(read("[7, []]"), WORK), [0, 1, 2, 0, 7, 1, 0])
        self.assertEqual(last(read("1 / 0"), WORK), [0, 2, 3])


class Numbers(WorkTest):
    def test_good_values(self):
        for text, number in {"3 + 4": 7, "3 - 4": -1, "3 * 4": 12, "-3": -3, "--3": 3, "-0": 0, "0 * -5": 0,
                             "-3 * -4": 12, "3 - -4": 7, "2 + 3 * 4": 14, "10 - 3 - 2": 5}.items():
            self.expect(text, number)

    def test_the_ends_of_the_range(self):
        self.expect("v + 1", LARGEST, v=LARGEST - 1)
        self.expect("v + 1", OUT_OF_RANGE, v=LARGEST)
        self.expect("v - 1", -LARGEST, v=1 - LARGEST)
        self.expect("v - 1", OUT_OF_RANGE, v=-LARGEST)
        self.expect("-v", LARGEST, v=-LARGEST)
        self.expect("-v", -LARGEST, v=LARGEST)
        self.expect("v + w", OUT_OF_RANGE, v=-LARGEST, w=-1)
        self.expect("v - w", OUT_OF_RANGE, v=LARGEST, w=-1)
        self.expect("v + w", 0, v=LARGEST, w=-LARGEST)

    def test_products_at_the_ends_of_the_range(self):
        self.expect("v * w", LARGEST, v=333333333333333333, w=3)
        self.expect("v * w", -LARGEST, v=333333333333333333, w=-3)
        self.expect("v * w", OUT_OF_RANGE, v=10 ** 9, w=10 ** 9)
        self.expect("v * w", OUT_OF_RANGE, v=-10 ** 9, w=10 ** 9)
        self.expect("v * w", OUT_OF_RANGE, v=LARGEST, w=LARGEST)
        self.expect("v * 0", 0, v=LARGEST)

    def test_what_is_out_of_range_on_the_way_is_a_fault(self):
        self.expect("v + 1 - 1", OUT_OF_RANGE, v=LARGEST)
        self.expect("v * 2 = v", OUT_OF_RANGE, v=LARGEST)

    def test_division_and_rest_with_each_sign(self):
        for first, second, quotient, rest in [(7, 2, 3, 1), (-7, 2, -4, 1), (7, -2, -4, -1), (-7, -2, 3, -1),
                                              (6, 2, 3, 0), (-6, 2, -3, 0), (6, -2, -3, 0), (-6, -2, 3, 0),
                                              (1, 2, 0, 1), (-1, 2, -1, 1), (1, -2, -1, -1), (-1, -2, 0, -1),
                                              (0, 2, 0, 0), (0, -2, 0, 0), (7, 1, 7, 0), (7, -1, -7, 0)]:
            self.expect("v / w", quotient, v=first, w=second)
            self.expect("v % w", rest, v=first, w=second)

    def test_division_and_rest_at_the_ends_of_the_range(self):
        self.expect("v / w", -LARGEST, v=LARGEST, w=-1)
        self.expect("v / w", LARGEST, v=-LARGEST, w=-1)
        self.expect("v / w", -1, v=-1, w=LARGEST)
        self.expect("v % w", LARGEST - 1, v=-1, w=LARGEST)
        self.expect("v % w", 1 - LARGEST, v=1, w=-LARGEST)
        self.expect("v / 2", -500000000000000000, v=-LARGEST)
        self.expect("v / w", 333333333333333333, v=LARGEST, w=3)
        self.expect("v / w", 142857142857142857, v=LARGEST, w=7)

    def test_division_and_rest_by_0(self):
        for first in [7, -7, 0, LARGEST]:
            self.expect("v / 0", BY_ZERO, v=first)
            self.expect("v % 0", BY_ZERO, v=first)
            self.expect("v / w", BY_ZERO, v=first)

    def test_not(self):
        for number, outcome in {0: 1, 1: 0, -1: 0, 7: 0, LARGEST: 0}.items():
            self.expect("!v", outcome, v=number)
        self.expect("!!7", 1)

    def test_less(self):
        for first, second, outcome in [(1, 2, 1), (2, 2, 0), (3, 2, 0), (-3, 2, 1), (-3, -4, 0),
                                       (-LARGEST, LARGEST, 1), (LARGEST - 1, LARGEST, 1)]:
            self.expect("v < w", outcome, v=first, w=second)

    def test_max_and_min(self):
        for first, second in [(1, 2), (2, 1), (2, 2), (-3, 2), (-3, -4), (-LARGEST, LARGEST)]:
            self.expect("max(v, w)", max(first, second), v=first, w=second)
            self.expect("min(v, w)", min(first, second), v=first, w=second)


class Equality(WorkTest):
    EQUAL = [0, 1, -1, LARGEST, [], [0], [1], [[]], [1, 2], [2, 1], [1, 2, 3], [[1, 2]], [[1], 2], [1, [2]], [[], []],
             [0, 0], [[0]]]

    def test_any_values(self):
        for place, first in enumerate(self.EQUAL):
            for other_place, second in enumerate(self.EQUAL):
                self.expect("v = w", int(place == other_place), v=first, w=second)

    def test_it_is_the_outcome_that_counts(self):
        self.expect("[1 + 1, 007] = [2, 7]", 1)
        self.expect("(v = w) = 1", 1)


class Lists(WorkTest):
    def test_lists_of_values(self):
        self.expect("[]", [])
        self.expect("[1, v, [#, []], 1 - 2]", [1, [3], [4, []], -1], own_number=4, v=[3])

    def test_cat(self):
        self.expect("cat(v, w)", [1, [2], 3, []], v=[1, [2]], w=[3, []])
        self.expect("cat(v, w)", [], v=[], w=[])
        self.expect("cat(v, [])", [1], v=[1])
        self.expect("cat([], v)", [1], v=[1])

    def test_lists_of_400_and_401_parts(self):
        self.expect("[v, w]", [[5] * 199, [6] * 198], v=[5] * 199, w=[6] * 198)
        self.expect("[v, w]", TOO_LARGE, v=[5] * 199, w=[6] * 199)
        self.expect("[v]", [[5] * 398], v=[5] * 398)
        self.expect("[v]", TOO_LARGE, v=[5] * 399)
        self.expect("[v, 1]", [[5] * 397, 1], v=[5] * 397)
        self.expect("[v, 1]", TOO_LARGE, v=[5] * 398)
        self.expect("[v]", [[[]] * 398], v=[[]] * 398)
        self.expect("[v]", TOO_LARGE, v=[[]] * 399)

    def test_cat_to_400_and_401_parts(self):
        self.expect("cat(v, w)", [5] * 399, v=[5] * 200, w=[5] * 199)
        self.expect("cat(v, w)", TOO_LARGE, v=[5] * 200, w=[5] * 200)
        self.expect("cat(v, [7])", [5] * 398 + [7], v=[5] * 398)
        self.expect("cat(v, [7])", TOO_LARGE, v=[5] * 399)
        self.expect("cat(v, [[7]])", TOO_LARGE, v=[5] * 398)
        self.expect("cat(v, [])", [5] * 399, v=[5] * 399)
        self.expect("cat(v, v)", TOO_LARGE, v=[[1] * 50] * 4)
        self.expect("len(cat(v, v))", TOO_LARGE, v=[5] * 399)

    def test_lists_of_the_depth_20_and_21(self):
        self.expect("[v]", nested(20), v=nested(19))
        self.expect("[v]", TOO_LARGE, v=nested(20))
        self.expect("[1, v, []]", [1, nested(19), []], v=nested(19))
        self.expect("[1, v, []]", TOO_LARGE, v=nested(20))
        self.expect("[" * 20 + "]" * 20, nested(20))
        self.expect("[" * 21 + "]" * 21, TOO_LARGE)
        self.expect("[" * 30 + "]" * 30, TOO_LARGE)
        self.expect("[" * 20 + "7" + "]" * 20, nested(20, 7))
        self.expect("[" * 21 + "7" + "]" * 21, TOO_LARGE)

    def test_cat_to_the_depth_20(self):
        self.expect("cat(v, [1])", nested(20) + [1], v=nested(20))
        self.expect("cat(v, v)", nested(20) * 2, v=nested(20))
        self.expect("cat([v], [])", TOO_LARGE, v=nested(20))

    def test_len(self):
        self.expect("len(v)", 0, v=[])
        self.expect("len(v)", 2, v=[[1, 2, 3], 4])
        self.expect("len(v)", 399, v=[0] * 399)

    def test_at(self):
        value = [5, [6, []], 7]
        for place, member in enumerate(value):
            self.expect(f"at(v, {place})", member, v=value)
        for place in [-1, 3, 4, LARGEST, -LARGEST]:
            self.expect("at(v, w)", NO_PLACE, v=value, w=place)
        for place in [-1, 0, 1]:
            self.expect("at(v, w)", NO_PLACE, v=[], w=place)
        self.expect("at(v, 398)", 7, v=[5] * 398 + [7])
        self.expect("at(v, 0)", nested(19), v=nested(20))

    def test_drop(self):
        value = [5, [6, []], 7]
        for count in range(4):
            self.expect(f"drop(v, {count})", value[count:], v=value)
        for count in [-1, 4, LARGEST, -LARGEST]:
            self.expect("drop(v, w)", NO_PLACE, v=value, w=count)
        self.expect("drop(v, 0)", [], v=[])
        self.expect("drop(v, 1)", NO_PLACE, v=[])
        self.expect("drop(v, 0)", [5] * 399, v=[5] * 399)

    def test_has(self):
        value = [5, [6, []], -7, []]
        for member in value:
            self.expect("has(v, w)", 1, v=value, w=member)
        for other in [6, 7, 0, [6], [5], [[]], value]:
            self.expect("has(v, w)", 0, v=value, w=other)
        self.expect("has([], 0)", 0)
        self.expect("has([[0]], 0)", 0)


class Look(WorkTest):
    def test_the_first_pair_with_this_key(self):
        value = [[1, 5], [2, [6]], [1, 7], [[3], 8], [[], []]]
        for key, outcome in [(1, 5), (2, [6]), ([3], 8), ([], []), (3, -1), (5, -1), ([1, 5], -1)]:
            self.expect("look(v, w, -1)", outcome, v=value, w=key)

    def test_any_default(self):
        self.expect("look([], 1, v)", [1, []], v=[1, []])
        self.expect("look([[2, 3]], 1, 7)", 7)

    def test_past_members_that_are_no_pairs(self):
        value = [1, [], [1], [1, 2, 3], [[1, 4]], [1, [], []], 5, [1, 9], [1]]
        self.expect("look(v, 1, 0)", 9, v=value)
        self.expect("look(v, 2, 0)", 0, v=value)
        self.expect("look(v, 1, 0)", 0, v=[1, 1])
        self.expect("look(v, 1, 0)", 0, v=[1, 2])

    def test_the_default_counts_as_an_argument_even_if_it_is_not_needed(self):
        self.expect("look([[1, 2]], 1, 1 / 0)", BY_ZERO)
        self.expect("look(7, 1 / 0, at([], 0))", BY_ZERO)


class Kinds(WorkTest):
    def test_good_values_and_one_of_the_wrong_kind(self):
        for operation, kinds in KINDS.items():
            good = [VALUES[kind[0]] for kind in kinds]
            self.assertEqual(last(read(operation.format(*good)), WORK)[1] in (0, 1), True, operation)
            for place, kind in enumerate(kinds):
                for other in "nl":
                    text = operation.format(*good[:place], VALUES[other], *good[place + 1:])
                    self.assertEqual(last(read(text), WORK) == [0, 2, 1], other not in kind, text)

    def test_ahead_of_all_other_faults(self):
        for text in ["v / 0", "v % 0", "0 / v", "at(v, [])", "at(1, 5)", "at(1, -5)", "drop(1, -1)", "drop(v, [])",
                     "cat(1, v)", "cat(v, 1)", "len(1)", "look(1, v, v)", "has(1, 1)", "-v", "!v", "max(1, v)",
                     "min(v, 1)", "1 < v", "v < v"]:
            self.expect(text, WRONG_KIND, v=[3])
        self.expect("v + w", WRONG_KIND, v=LARGEST, w=[])
        self.expect("v * w", WRONG_KIND, v=[], w=LARGEST)
        self.expect("cat(v, 1)", WRONG_KIND, v=[5] * 399)


class Faults(WorkTest):
    def test_the_first_fault_among_the_arguments(self):
        for operation, kinds in KINDS.items():
            for first in range(len(kinds)):
                for text, fault in FAULTS.items():
                    others = [other for other in FAULTS if other != text]
                    good = ["[]" if kind == "l" else "1" for kind in kinds]
                    self.expect(operation.format(*good[:first], text, *good[first + 1:]), fault)
                    self.expect(operation.format(*good[:first], text, *others[:len(kinds) - first - 1]), fault)

    def test_ahead_of_the_kinds(self):
        for operation, kinds in KINDS.items():
            for first in range(len(kinds)):
                wrong = ["1" if kind == "l" else "[]" for kind in kinds]
                wrong[first] = "v"
                self.expect(operation.format(*wrong), NO_PLACE, v=NO_PLACE)

    def test_each_bound_fault(self):
        for fault in [WRONG_KIND, OUT_OF_RANGE, BY_ZERO, NO_PLACE, TOO_LARGE]:
            self.expect("1 + [len(v)]", fault, v=fault)
            self.expect("w + v", fault, v=fault)
            self.expect("v + w", fault, v=fault, w=WRONG_KIND)


class Choices(WorkTest):
    def test_if_with_a_number(self):
        for number in [1, -1, 7, LARGEST]:
            self.expect("if v then 5 else 6", 5, v=number)
        self.expect("if 0 then 5 else 6", 6)

    def test_if_gives_any_outcome(self):
        for outcome in [7, -7, [1, []], BY_ZERO, WRONG_KIND]:
            self.expect("if 1 then v else 0", outcome, v=outcome)
            self.expect("if 0 then 0 else v", outcome, v=outcome)

    def test_if_with_a_list_or_a_fault(self):
        for value in [[], [1], [0]]:
            self.expect("if v then 5 else 6", WRONG_KIND, v=value)
        for text, fault in FAULTS.items():
            self.expect(f"if {text} then 5 else 6", fault)
            self.expect(f"if {text} then v else v", fault, v=NO_PLACE)

    def test_what_an_if_does_not_take_does_not_matter(self):
        for text in [*FAULTS, "[]", "v"]:
            self.expect(f"if 1 then 5 else {text}", 5, v=TOO_LARGE)
            self.expect(f"if 0 then {text} else 5", 5, v=TOO_LARGE)
            self.expect(f"if [] then {text} else {text}", WRONG_KIND, v=TOO_LARGE)

    def test_and(self):
        truths = {0: 0, 1: 1, -1: 1, 7: 1, LARGEST: 1}
        for first, first_truth in truths.items():
            for second, second_truth in truths.items():
                self.expect("v & w", first_truth & second_truth, v=first, w=second)
                self.expect("v | w", first_truth | second_truth, v=first, w=second)

    def test_and_with_lists_and_faults(self):
        for wrong, fault in [([], WRONG_KIND), ([1], WRONG_KIND), (BY_ZERO, BY_ZERO), (TOO_LARGE, TOO_LARGE)]:
            for other in [0, 1, 7, [], NO_PLACE]:
                self.expect("v & w", fault, v=wrong, w=other)
                self.expect("v | w", fault, v=wrong, w=other)
            self.expect("7 & v", fault, v=wrong)
            self.expect("0 | v", fault, v=wrong)
            self.expect("-1 & v", fault, v=wrong)

    def test_what_they_do_not_come_to_does_not_matter(self):
        for text in [*FAULTS, "[]", "v", "1", "0"]:
            self.expect(f"0 & {text}", 0, v=NO_PLACE)
            self.expect(f"1 | {text}", 1, v=NO_PLACE)
            self.expect(f"7 | {text}", 1, v=NO_PLACE)

    def test_rows_of_them(self):
        self.expect("1 & 1 & 0 & 1 / 0", 0)
        self.expect("0 | 0 | 3 | 1 / 0", 1)
        self.expect("0 & 1 / 0 | 5", 1)
        self.expect("1 | 1 / 0 & 0", 1)


class Apart(WorkTest):
    def test_working_changes_nothing(self):
        calls = [read("[v, #, w]"), bind(0, "v", [1, 1, 0, 3]), own(4)]
        found = asked(*calls, WORK, WORK, FORM, FACTS)
        self.assertEqual(found[3], found[4])
        self.assertEqual(found[3], [0, *flat([[3], 4, 0])])
        self.assertEqual(found[5:], asked(*calls, FORM, FACTS)[3:])

    def test_deep_expressions(self):
        self.expect("1" + "+1" * 29, 30)
        self.expect("-" * 30 + "7", 7)
        self.expect("1" + "-1" * 29, -28)
        self.expect("(1+" * 29 + "1" + ")" * 29, 30)
        self.expect("len([" * 15 + "]" + ")]" * 14 + ")", 1)

    def test_the_answer_of_a_large_value(self):
        self.assertEqual(last(bind(0, "v", flat([5] * 399)), read("v"), WORK), [0, 1, 399] + [0, 5] * 399)


if __name__ == "__main__":
    unittest.main()
