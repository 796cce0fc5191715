import unittest

from tests.helper import FACTS, asked, facts_of, last, read


class FactsTest(unittest.TestCase):
    def test_no_expression_is_held(self):
        self.assertEqual(last(FACTS), [-2])
        self.assertEqual(last(read("f(1)"), FACTS), [-2])

    def test_the_row_as_it_is_answered(self):
        self.assertEqual(last(read("[#, 2.ab] = v"), FACTS),
                         [0, 5, 1, 1, 2, 2, 2, 2, 97, 98, 0, 1, 118])
        self.assertEqual(last(read("7"), FACTS), [0, 1, 0, 0, 1, 0])

    def test_how_many_parts(self):
        self.assertEqual(facts_of("7")[0], 1)
        self.assertEqual(facts_of("((7))")[0], 1)
        self.assertEqual(facts_of("if a then [1, 2] else -#")[0], 7)
        self.assertEqual(facts_of("[" + ",".join("a" * 59) + "]")[0], 60)


class Levels(unittest.TestCase):
    def expect(self, text, levels):
        self.assertEqual(facts_of(text)[1], levels, text)

    def test_the_examples(self):
        self.expect("a + b", 0)
        self.expect("[]", 1)
        self.expect("-a", 1)
        self.expect("-(a + b)", 2)

    def test_those_of_the_form_not_of_the_text(self):
        self.expect("((((a))))", 0)
        self.expect("-(-(-(a)))", 3)
        self.expect("(a * b) + c", 0)
        self.expect("a * (b + c)", 1)

    def test_each_kind_of_part(self):
        self.expect("7", 0)
        self.expect("#", 0)
        self.expect("3.v", 0)
        self.expect("!a", 1)
        self.expect("[a]", 1)
        self.expect("len(a)", 1)
        self.expect("if a then b else c", 1)
        self.expect("a - (b - c)", 1)
        self.expect("a = (b = c)", 1)

    def test_the_most_that_are_open_at_once(self):
        self.expect("-a + -b + [c]", 1)
        self.expect("[a, [b], c, [d, [e]]]", 3)
        self.expect("max([[a]], b)", 3)
        self.expect("if [[a]] then b else c", 3)
        self.expect("if a then [[b]] else c", 3)
        self.expect("if a then b else [[c]]", 3)
        self.expect("if a then b else if c then d else e", 2)
        self.expect("1 + (if a then b else c)", 2)
        self.expect("a * (b + c * (d + e))", 2)
        self.expect("(a + (b + c)) * -d", 2)
        self.expect("a * (b + c) + [[[d]]]", 3)

    def test_30_levels(self):
        self.expect("-" * 30 + "a", 30)
        self.expect("[" * 30 + "]" * 30, 30)
        self.expect("(" * 30 + "a" + ")" * 30, 0)


class OwnNumber(unittest.TestCase):
    def test_whether_it_stands_in_it(self):
        for text in ["#", "-#", "a + #", "[1, [#]]", "if a then b else #", "# + #", "at(#, 1)"]:
            self.assertEqual(facts_of(text)[2], 1, text)
        for text in ["0", "a", "[]", "if a then b else c"]:
            self.assertEqual(facts_of(text)[2], 0, text)


class Sorts(unittest.TestCase):
    SORTED = {
        0: ["v", "2.v", "at(v, 1)", "look(v, 1, 2)", "at([], 0)"],
        1: ["2", "007", "999999999999999999", "#", "-v", "-1", "v + v", "v - v", "v * v", "v / v", "v % v",
            "1 + 1", "len(v)", "max(v, v)", "min(0, 1)"],
        2: ["0", "1", "00", "01", "v | v", "v & v", "v = v", "v < v", "!v", "has(v, v)", "[] | 2"],
        3: ["[]", "[v]", "cat(v, v)", "drop(v, 1)", "[2]"],
    }

    def test_each_kind_of_part(self):
        for sort, texts in self.SORTED.items():
            for text in texts:
                self.assertEqual(facts_of(text)[3], sort, text)

    def test_ifs(self):
        for first, first_texts in self.SORTED.items():
            for second, second_texts in self.SORTED.items():
                sort = first if first == second else 1 if {first, second} == {1, 2} else 0
                text = f"if [] then {first_texts[0]} else {second_texts[0]}"
                self.assertEqual(facts_of(text)[3], sort, text)
        self.assertEqual(facts_of("if v then 2 else if v then 0 else 1")[3], 1)
        self.assertEqual(facts_of("if v then 2 else if v then 0 else []")[3], 0)
        self.assertEqual(facts_of("if v then [] else if v then [1] else drop(v, 1)")[3], 3)

    def test_brackets_do_not_matter(self):
        self.assertEqual(facts_of("((v = v))")[3], 2)


class Occurrences(unittest.TestCase):
    def test_from_left_to_right_each_as_often_as_it_stands_there(self):
        self.assertEqual(facts_of("b + a * (2.b - a) - len(0.b)")[4],
                         [(0, "b"), (0, "a"), (2, "b"), (0, "a"), (0, "b")])
        self.assertEqual(facts_of("if c then at(d, e) else [f, -g]")[4],
                         [(0, "c"), (0, "d"), (0, "e"), (0, "f"), (0, "g")])
        self.assertEqual(facts_of("v = v")[4], [(0, "v"), (0, "v")])

    def test_none(self):
        self.assertEqual(facts_of("[1, #, len([])]")[4], [])

    def test_the_largest(self):
        self.assertEqual(facts_of("999999999999999999.abcdefghijkL")[4], [(999999999999999999, "abcdefghijkL")])

    def test_facts_change_nothing(self):
        found = asked(read("a + #"), FACTS, FACTS)
        self.assertEqual(found[1], found[2])


if __name__ == "__main__":
    unittest.main()
