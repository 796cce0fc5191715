import unittest

from tests.helper import (BACK, BINDINGS, FACTS, FORM, GOOD_NAMES, LARGEST, NO_EXPRESSIONS, SEEN, TOO_LONG, WORK,
                          WRONG_NAMES, WRONG_PLACES, asked, bind, form_behind, form_of, last, own, put, read, same,
                          try_out)


def listed(count):
    """A list of this many occurrences of v."""
    return "[" + ", ".join(["v"] * count) + "]"


class PutTest(unittest.TestCase):
    def expect(self, held, name, text, form, count):
        """The name may have its place ahead, as in 2.v."""
        place, _, name = name.rpartition(".")
        call = put(int(place or 0), name, text)
        self.assertEqual(last(read(held), call), [0, count], (held, text))
        self.assertEqual(form_behind(read(held), call), form)
        self.assertEqual(last(read(held), call, same(form)), [1])


class Occurrences(PutTest):
    def test_one(self):
        self.expect("v", "v", "7", "7", 1)
        self.expect("v + w", "v", "7", "7 + w", 1)
        self.expect("v + w", "w", "[]", "v + []", 1)

    def test_several(self):
        self.expect("[v, 1 + v, -v]", "v", "w", "[w, 1 + w, -w]", 3)
        self.expect("if v then v else v", "v", "1 | 2", "if 1 | 2 then 1 | 2 else 1 | 2", 3)

    def test_none(self):
        self.expect("w + 1", "v", "7", "w + 1", 0)
        self.expect("#", "v", "7", "#", 0)
        self.expect("2.v", "v", "7", "2.v", 0)
        self.expect("v", "2.v", "7", "v", 0)
        self.expect("len([])", "len", "7", "len([])", 0)
        self.expect("v", "vv", "7", "v", 0)

    def test_place_and_name_make_the_occurrence(self):
        self.expect("v + 0.v + 1.v + 01.v + 1.w + w", "v", "3", "3 + 3 + 1.v + 1.v + 1.w + w", 2)
        self.expect("v + 0.v + 1.v + 01.v + 1.w + w", "1.v", "3", "v + v + 3 + 3 + 1.w + w", 2)
        self.expect(f"{LARGEST}.v", f"{LARGEST}.v", "3", "3", 1)
        self.expect("len(len)", "len", "[7]", "len([7])", 1)

    def test_what_is_put_in_is_not_looked_through_again(self):
        self.expect("v", "v", "v", "v", 1)
        self.expect("v + v", "v", "v * v", "v * v + v * v", 2)
        self.expect("[v]", "v", "[v, w]", "[[v, w]]", 1)
        self.expect("v + w", "v", "w", "w + w", 1)

    def test_good_places_and_names(self):
        for name in GOOD_NAMES:
            self.expect(f"3.{name}", f"3.{name}", "1", "1", 1)


class Forms(PutTest):
    def test_the_brackets_of_the_new_form(self):
        for held, text, form in [("v * 2", "a + b", "(a + b) * 2"), ("v + 2", "a * b", "a * b + 2"),
                                 ("2 - v", "a - b", "2 - (a - b)"), ("v - 2", "a - b", "a - b - 2"),
                                 ("-v", "a * b", "-(a * b)"), ("-v", "-a", "--a"), ("!v", "len(a)", "!len(a)"),
                                 ("v = 1", "a = b", "(a = b) = 1"), ("1 < v", "a & b", "1 < (a & b)"),
                                 ("v | 1", "if a then b else c", "(if a then b else c) | 1"),
                                 ("if v then 1 else 2", "if a then b else c", "if if a then b else c then 1 else 2"),
                                 ("[v]", "a | b", "[a | b]"), ("len(v)", "a | b", "len(a | b)"),
                                 ("(v + 1) * 2", "((a))", "(a + 1) * 2"), ("v & 1", "a | b", "(a | b) & 1")]:
            self.expect(held, "v", text, form, 1)

    def test_the_tree_is_put_in_not_the_text(self):
        self.expect("v * 2", "v", "1 + 1", "(1 + 1) * 2", 1)
        self.assertEqual(last(read("v * 2"), put(0, "v", "1 + 1"), WORK), [0, 0, 4])

    def test_the_facts_of_the_new_expression(self):
        self.assertEqual(last(read("-v + w"), put(0, "v", "# + w"), FACTS),
                         [0, 6, 2, 1, 1, 2, 0, 1, 119, 0, 1, 119])


class Outcomes(unittest.TestCase):
    def test_as_if_the_outcome_were_bound(self):
        before = [bind(0, "w", [1, 1, 0, 3]), bind(0, "v", [0, 8]), own(-2)]
        for held in ["v", "v + v", "[v, w]", "0 & v", "if v then v else w", "len(v)", "at(w, v)", "look(v, 0, #)"]:
            for text in ["v", "v + 1", "#", "w", "1 / 0", "[w, v]", "len(w)", "v + w", "0", "[[0, 5]]"]:
                tried = last(*before, try_out(text))[1:]
                self.assertEqual(last(*before, read(held), put(0, "v", text), WORK),
                                 last(*before, read(held), bind(0, "v", tried), WORK), (held, text))


class Refusals(unittest.TestCase):
    def test_wrong_places_and_names(self):
        for place in WRONG_PLACES:
            self.assertEqual(last(read("v"), put(place, "v", "1")), [-3])
        for name in WRONG_NAMES:
            self.assertEqual(last(read("v"), put(0, name, "1")), [-4], name)

    def test_wrong_texts(self):
        for text in TOO_LONG:
            self.assertEqual(last(read("v"), put(0, "v", text)), [-1])
            self.assertEqual(last(read("w"), put(0, "v", text)), [-1])
        for text in NO_EXPRESSIONS:
            self.assertEqual(last(read("v"), put(0, "v", text)), [-9], text)
            self.assertEqual(last(read("w"), put(0, "v", text)), [-9], text)

    def test_none_is_held(self):
        self.assertEqual(asked(put(0, "v", "1"), FORM, BACK), [[-2], [-2], [-11]])
        self.assertEqual(last(read("a b"), put(0, "v", "1")), [-2])

    def test_their_order(self):
        long, wrong, large = "a" * 3001, "a b", "-" * 30 + "a"
        held = read("[" + ", ".join(["-v"] * 20) + "]")
        for text in [long, wrong, large, "1"]:
            for calls in [[], [held]]:
                self.assertEqual(last(*calls, put(-1, "A", text)), [-3])
                self.assertEqual(last(*calls, put(-1, "v", text)), [-3])
                self.assertEqual(last(*calls, put(0, "A", text)), [-4])
        self.assertEqual(last(put(0, "v", long)), [-1])
        self.assertEqual(last(put(0, "v", wrong)), [-9])
        self.assertEqual(last(put(0, "v", large)), [-2])
        self.assertEqual(last(held, put(0, "v", large)), [-10])
        self.assertEqual(last(read("[-v]"), put(0, "v", large)), [-8])

    def test_a_refused_call_changes_nothing(self):
        before = [read("w"), read("[" + ", ".join(["-v"] * 20) + "]"), bind(0, "v", [2, 3]), own(8)]
        look = [FORM, FACTS, BINDINGS, WORK, SEEN, BACK, FORM, BACK, FORM, BACK]
        expected = asked(*before, *look)[4:]
        for refused in [put(-1, "v", "1"), put(0, "if", "1"), put(0, "v", "a" * 3001), put(0, "v", "1 1"),
                        put(0, "v", "[a, b]"), put(0, "v", "-" * 30 + "a")]:
            found = asked(*before, refused, *look)
            self.assertLess(found[4][0], 0)
            self.assertEqual(found[5:], expected)


class Limits(PutTest):
    def test_60_and_61_parts(self):
        self.expect(listed(29), "v", "-1", "[" + ", ".join(["-1"] * 29) + "]", 29)
        self.assertEqual(last(read(listed(29) + " = v"), put(0, "v", "-1")), [-10])
        self.expect(listed(1), "v", "[" + ", ".join("a" * 58) + "]", "[[" + ", ".join("a" * 58) + "]]", 1)
        self.assertEqual(last(read(listed(1)), put(0, "v", "[" + ", ".join("a" * 59) + "]")), [-10])
        self.expect("v", "v", "-1" + "+1" * 29, "-1" + " + 1" * 29, 1)
        self.assertEqual(last(read("-v"), put(0, "v", "-1" + "+1" * 29)), [-10])
        self.assertEqual(last(read(listed(59)), put(0, "v", "-1" + "+1" * 29)), [-10])

    def test_60_parts_that_stay_60(self):
        self.expect(listed(59), "v", "1", "[" + ", ".join("1" * 59) + "]", 59)
        self.expect(listed(59), "w", "-" * 30 + "1", listed(59), 0)

    def test_30_and_31_levels(self):
        self.expect("-" * 15 + "v", "v", "-" * 15 + "a", "-" * 30 + "a", 1)
        self.assertEqual(last(read("-" * 15 + "v"), put(0, "v", "-" * 16 + "a")), [-8])
        self.expect("-" * 29 + "v", "v", "a + b", "-" * 29 + "(a + b)", 1)
        self.assertEqual(last(read("-" * 30 + "v"), put(0, "v", "a + b")), [-8])
        self.expect("[" * 30 + "v" + "]" * 30, "v", "a + b", "[" * 30 + "a + b" + "]" * 30, 1)
        self.assertEqual(last(read("[" * 30 + "v" + "]" * 30), put(0, "v", "[]")), [-8])
        self.expect("-" * 30 + "v", "v", "(" * 30 + "a" + ")" * 30, "-" * 30 + "a", 1)

    def test_levels_of_different_occurrences_do_not_add_up(self):
        self.expect("v + [v]", "v", "-" * 20 + "a", "-" * 20 + "a + [" + "-" * 20 + "a]", 2)

    def test_60_parts_with_31_levels(self):
        self.assertEqual(last(read("-" * 29 + "[v]"), put(0, "v", "-" * 28 + "a")), [-8])
        self.assertEqual(last(read("-" * 29 + "[v]"), put(0, "v", "-" * 29 + "a")), [-8])
        self.assertEqual(last(read("-" * 29 + "[v]"), put(0, "v", "-" * 30 + "a")), [-10])

    def test_the_form_is_read_again(self):
        calls = [read("[v, -v, v * 2]"), put(0, "v", "if a then b else c"), put(0, "b", "1 | #")]
        form = form_behind(*calls)
        self.assertEqual(form, form_of(form))
        self.assertEqual(last(*calls, FACTS), last(read(form), FACTS))


if __name__ == "__main__":
    unittest.main()
