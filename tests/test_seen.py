import unittest

from tests.helper import (BINDINGS, BY_ZERO, FORM, SEEN, TOO_LARGE, WORK, WRONG_KIND, asked, bind, bound, free, last,
                          occurrences, own, read)


class SeenTest(unittest.TestCase):
    def expect(self, text, names, **given):
        """The names (told as one text, with blanks between) that are looked at."""
        answer = last(*bound(given), read(text), SEEN)
        self.assertEqual(answer[0], 0, text)
        found = [f"{place}.{name}" if place else name for place, name in occurrences(answer[1:])]
        self.assertEqual(found, names.split(), text)


class Order(SeenTest):
    def test_none_is_held(self):
        self.assertEqual(last(SEEN), [-2])
        self.assertEqual(last(read("f("), SEEN), [-2])

    def test_the_row_as_it_is_answered(self):
        self.assertEqual(last(read("[2.ab, v, 02.ab]"), SEEN), [0, 2, 2, 2, 97, 98, 0, 1, 118])
        self.assertEqual(last(read("7"), SEEN), [0, 0])

    def test_no_occurrences(self):
        for text in ["#", "[]", "1 + # * 3", "if # then 1 else 2"]:
            self.expect(text, "")

    def test_in_the_order_of_the_first_look_each_once(self):
        self.expect("b + a * (c - a) - b", "b a c")
        self.expect("v + v", "v")
        self.expect("z + (y + (x + y))", "z y x")
        self.expect("[c, [b, [a, c]], b]", "c b a")

    def test_place_and_name_make_the_occurrence(self):
        self.expect("v + 1.v + 0.v + 2.v + 001.v + w", "v 1.v 2.v w")

    def test_each_operation_comes_to_its_arguments_in_order(self):
        for text in ["a = b", "a < b", "a + b", "a - b", "a * b", "max(a, b)", "min(a, b)", "[a, b]"]:
            self.expect(text, "a b")
        for text in ["-a", "!a", "[a]"]:
            self.expect(text, "a")
        self.expect("look([], a, b)", "a b")
        self.expect("has([a], b)", "a b")
        self.expect("cat([a], [b])", "a b")
        self.expect("drop([c, a], b)", "c a b")
        self.expect("at([c, a], b)", "c a b")


class UpToTheFirstFault(SeenTest):
    def test_a_bound_fault_is_looked_at_itself(self):
        self.expect("v", "v", v=BY_ZERO)
        self.expect("a + v", "a v", v=BY_ZERO)
        self.expect("v + a", "v", v=BY_ZERO)
        self.expect("[a, v, b]", "a v", v=BY_ZERO)
        self.expect("look(a, v, b)", "a v", v=BY_ZERO)
        self.expect("look(v, a, b)", "v", v=BY_ZERO)
        for text in ["v = a", "v < a", "v + a", "v - a", "v * a", "v / a", "v % a", "max(v, a)", "min(v, a)",
                     "at(v, a)", "drop(v, a)", "cat(v, a)", "has(v, a)", "-v", "!v", "len(v)", "[v, a]"]:
            self.expect(text, "v", v=TOO_LARGE)

    def test_a_fault_of_an_operation(self):
        self.expect("a / b + c", "a b")
        self.expect("[a, b / 0, c]", "a b")
        self.expect("(len(a) + b) * c", "a")
        self.expect("at([a], 1 + b) + c", "a b")
        self.expect("[1 / 0, a]", "")

    def test_an_operation_of_values_of_the_wrong_kind_has_come_to_all_of_them(self):
        self.expect("v + a", "v a", v=[])
        self.expect("at(a, b)", "a b")
        self.expect("look(a, b, c)", "a b c")
        self.expect("(v + a) + b", "v a", v=[])

    def test_what_stands_behind_in_an_outer_operation(self):
        self.expect("[[a, [v, b]], c]", "a v", v=BY_ZERO)
        self.expect("(if v then a else b) + c", "v", v=BY_ZERO)
        self.expect("[if a then b else v, c]", "a v", v=BY_ZERO)


class Choices(SeenTest):
    def test_if(self):
        self.expect("if c then t else f", "c t", c=1)
        self.expect("if c then t else f", "c t", c=-7)
        self.expect("if c then t else f", "c f", c=0)
        self.expect("if c then t else f", "c f")
        self.expect("if c then t else f", "c", c=[])
        self.expect("if c then t else f", "c", c=[1])
        self.expect("if c then t else f", "c", c=WRONG_KIND)
        self.expect("if c then c else f", "c", c=1)

    def test_and(self):
        self.expect("a & b", "a", a=0)
        self.expect("a & b", "a b", a=1)
        self.expect("a & b", "a b", a=-7)
        self.expect("a & b", "a", a=[])
        self.expect("a & b", "a", a=BY_ZERO)
        self.expect("a & b & c", "a b", a=1, b=0)
        self.expect("a & b & c", "a b c", a=1, b=1)
        self.expect("a & b & c", "a b", a=1, b=[])

    def test_or(self):
        self.expect("a | b", "a b", a=0)
        self.expect("a | b", "a", a=1)
        self.expect("a | b", "a", a=-7)
        self.expect("a | b", "a", a=[])
        self.expect("a | b", "a", a=BY_ZERO)
        self.expect("a | b | c", "a b", a=0, b=3)
        self.expect("a | b | c", "a b c")
        self.expect("a | b | c", "a b", b=[])

    def test_of_one_another(self):
        self.expect("if a | b then c & d else e", "a b c", b=1)
        self.expect("if a | b then c & d else e", "a c d", a=1, c=1)
        self.expect("if a | b then c & d else e", "a b e")
        self.expect("[0 & a, 1 | b, c]", "c")

    def test_what_is_not_come_to_is_looked_at_elsewhere(self):
        self.expect("(0 & a) + b + a", "b a")
        self.expect("[if c then a else b, a]", "c b a")


class Apart(SeenTest):
    def test_it_goes_by_bindings_and_the_own_number(self):
        found = asked(read("if # then a & b else c"), SEEN, own(4), SEEN, bind(0, "a", [0, 1]), SEEN, free(0, "a"),
                      SEEN)
        self.assertEqual([occurrences(answer[1:]) for answer in found[1::2]],
                         [[(0, "c")], [(0, "a")], [(0, "a"), (0, "b")], [(0, "a")]])

    def test_nothing_is_changed(self):
        calls = [read("v / w"), bind(0, "v", [0, 3]), own(4)]
        self.assertEqual(asked(*calls, SEEN, SEEN, FORM, BINDINGS, WORK)[5:], asked(*calls, FORM, BINDINGS, WORK)[3:])

    def test_60_parts(self):
        names = [f"v{number}" for number in range(30)]
        self.expect(" + ".join(names), " ".join(names))
        self.expect(" + ".join(reversed(names)), " ".join(reversed(names)))


if __name__ == "__main__":
    unittest.main()
