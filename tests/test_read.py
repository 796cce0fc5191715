import unittest

from tests.helper import FACTS, FORM, asked, facts_of, form_of, last, read


class ReadTest(unittest.TestCase):
    def expect_parts(self, text, count):
        self.assertEqual(last(read(text)), [0, count], text)

    def expect_fault(self, text, fault, place):
        self.assertEqual(last(read(text)), [1, fault, place], text)


class GoodTexts(ReadTest):
    def test_each_atom(self):
        for text in ["0", "7", "v", "3.v", "#", "(v)", "[]", "len", "iff", "if1", "thenElse"]:
            self.expect_parts(text, 1)

    def test_each_operation(self):
        for sign in "|&=<+-*/%":
            self.expect_parts(f"a{sign}b", 3)
        for sign in "-!":
            self.expect_parts(f"{sign}a", 2)
        self.expect_parts("if a then b else c", 4)
        self.expect_parts("[a]", 2)
        self.expect_parts("[a, 1, #]", 4)

    def test_each_call(self):
        counts = {"len": 1, "at": 2, "cat": 2, "look": 3, "drop": 2, "has": 2, "max": 2, "min": 2}
        for name, count in counts.items():
            self.expect_parts(name + "(" + ",".join("a" * count) + ")", count + 1)
            for wrong in {0, 1, 2, 3, 4} - {count}:
                self.expect_fault("1+" + name + "(" + ",".join("a" * wrong) + ")", 6, 2)

    def test_brackets_are_no_parts(self):
        self.expect_parts("((a)) + ((1))", 3)

    def test_blanks_are_passed_over(self):
        self.expect_parts(" \n a \n + \n2\n.\nb ", 3)
        self.expect_parts("if(a)then[b]else(c)", 5)
        self.expect_parts("len (a)", 2)

    def test_blanks_part_tokens(self):
        self.expect_fault("1 2", 4, 2)
        self.expect_fault("i f", 4, 2)
        self.expect_fault("a\nb", 4, 2)

    def test_other_blanks_are_faults(self):
        for byte in (0, 9, 11, 13, 127, 160, 255):
            self.assertEqual(last(read([97, byte])), [1, 1, 1])

    def test_numbers_with_zeros_before(self):
        self.assertEqual(form_of("007"), "7")
        self.assertEqual(form_of("000000000000000000"), "0")
        self.assertEqual(facts_of("007.v")[4], [(7, "v")])

    def test_zero_place_is_the_same_as_none(self):
        self.assertEqual(asked(read("0.v"), FORM, FACTS), asked(read("v"), FORM, FACTS))
        self.assertEqual(form_of("00.v"), "v")

    def test_an_occurrence_may_be_called_like_a_call(self):
        self.assertEqual(facts_of("len + 2.max + at")[4], [(0, "len"), (2, "max"), (0, "at")])
        self.expect_parts("len(len)", 2)

    def test_if_in_each_place_where_an_expression_stands(self):
        self.expect_parts("(if a then b else c)", 4)
        self.expect_parts("[if a then b else c, if a then b else c]", 9)
        self.expect_parts("len(if a then b else c)", 5)
        self.expect_parts("if if a then b else c then if a then b else c else if a then b else c", 13)
        self.expect_parts("if a then b else if c then d else e", 7)
        self.expect_parts("(if a then b else c) + 1", 6)

    def test_all_operators_group_to_the_left(self):
        for sign in "|&+-*/%":
            self.assertEqual(form_of(f"a {sign} b {sign} c"), f"a {sign} b {sign} c")
            self.assertEqual(form_of(f"(a {sign} b) {sign} c"), f"a {sign} b {sign} c")
            self.assertEqual(form_of(f"a {sign} (b {sign} c)"), f"a {sign} (b {sign} c)")


class Tokens(ReadTest):
    def test_names_of_12_and_13_bytes(self):
        self.expect_parts("a" * 12, 1)
        self.expect_parts("aB3456789012", 1)
        self.expect_fault("a" * 13, 2, 0)
        self.expect_fault(" 1 + aB34567890123", 2, 5)
        self.expect_fault("A" * 13, 2, 0)
        self.expect_fault("3." + "a" * 13, 2, 2)

    def test_numbers_of_18_and_19_digits(self):
        self.assertEqual(form_of("9" * 18), "9" * 18)
        self.assertEqual(facts_of("9" * 18 + ".v")[4], [(999999999999999999, "v")])
        self.expect_fault("9" * 19, 3, 0)
        self.expect_fault("a + " + "0" * 19, 3, 4)
        self.expect_fault("1" * 19 + "a" * 13, 3, 0)

    def test_a_number_ends_where_its_digits_end(self):
        self.expect_fault("12ab", 4, 2)
        self.expect_fault("12" + "a" * 13, 2, 2)
        self.expect_parts("1" * 18 + ".v", 1)

    def test_bytes_that_begin_no_token(self):
        for byte in range(256):
            character = bytes([byte]).decode("latin-1")
            if character.isascii() and (character.isalnum() or character in " \n;:{}()[],.=<>+-*/%&|!?#"):
                self.assertNotEqual(last(read([byte]))[:2], [1, 1], byte)
            else:
                self.assertEqual(last(read([byte])), [1, 1, 0], byte)
                self.assertEqual(last(read([32, 40, byte])), [1, 1, 2], byte)

    def test_signs_that_stand_nowhere(self):
        for sign in ";:{}>?":
            self.expect_fault(sign, 4, 0)
            self.expect_fault("a " + sign + " b", 4, 2)

    def test_great_names_stand_nowhere(self):
        self.expect_fault("A", 4, 0)
        self.expect_fault("If", 4, 0)
        self.expect_fault("a + Ab", 4, 4)
        self.expect_fault("2.A", 4, 2)
        self.expect_fault("Len(a)", 4, 0)

    def test_the_first_token_fault_is_told_ahead_of_all_else(self):
        self.expect_fault("a + _ + f(", 1, 4)
        self.expect_fault(") ) f( " + "a" * 13, 2, 7)
        self.expect_fault("f( " + "1" * 19 + " _ " + "a" * 13, 3, 3)
        self.expect_fault("(" * 31 + "_", 1, 31)
        self.expect_fault("1" + "+1" * 60 + "_", 1, 121)


class WrongTokens(ReadTest):
    def test_the_examples(self):
        self.expect_fault("", 4, 0)
        self.expect_fault("a b", 4, 2)
        self.expect_fault("max(1)", 6, 0)
        self.expect_fault("f(", 6, 0)
        self.expect_fault("len(", 4, 4)
        self.expect_fault("1 < 2 < 3", 4, 6)
        self.expect_fault("2.x + 2. 5", 4, 9)
        self.expect_fault("a + _ + f(", 1, 4)
        self.expect_fault("1 + if a then b else c", 4, 4)
        self.expect_fault("2.len(1)", 4, 5)

    def test_the_text_ends_where_a_token_is_missing(self):
        for text in ["", "  ", "(", "[", "[a", "[a,", "a +", "-", "!", "len(", "len(a", "at(a,", "2.", "(a", "if",
                     "if a", "if a then", "if a then b", "if a then b else", "a + \n ", "if a then b "]:
            self.expect_fault(text, 4, len(text))

    def test_tokens_that_can_not_stand_there(self):
        self.expect_fault(")", 4, 0)
        self.expect_fault("()", 4, 1)
        self.expect_fault("[a,]", 4, 3)
        self.expect_fault("[,a]", 4, 1)
        self.expect_fault("[a)", 4, 2)
        self.expect_fault("(a]", 4, 2)
        self.expect_fault("(a, b)", 4, 2)
        self.expect_fault("len(a]", 4, 5)
        self.expect_fault("len(]", 4, 4)
        self.expect_fault("[)", 4, 1)
        self.expect_fault("at(a b)", 4, 5)
        self.expect_fault("at(,a)", 4, 3)
        self.expect_fault("* a", 4, 0)
        self.expect_fault("a + * b", 4, 4)
        self.expect_fault("a ! b", 4, 2)
        self.expect_fault("then", 4, 0)
        self.expect_fault("else", 4, 0)
        self.expect_fault("a.b", 4, 1)
        self.expect_fault("1.2.b", 4, 2)
        self.expect_fault("2.if", 4, 2)
        self.expect_fault("2.x.y", 4, 3)
        self.expect_fault("(f)(a)", 4, 3)
        self.expect_fault("1(a)", 4, 1)
        self.expect_fault("a f(", 4, 2)
        self.expect_fault("#1", 4, 1)
        self.expect_fault("a [b]", 4, 2)

    def test_tokens_left_behind(self):
        self.expect_fault("a)", 4, 1)
        self.expect_fault("a, b", 4, 1)
        self.expect_fault("[a] ]", 4, 4)
        self.expect_fault("(a) then", 4, 4)
        self.expect_fault("if a then b else c else d", 4, 19)

    def test_the_words_of_an_if_in_the_wrong_order(self):
        self.expect_fault("if a else b", 4, 5)
        self.expect_fault("if then", 4, 3)
        self.expect_fault("if a then b then c", 4, 12)
        self.expect_fault("if a, b", 4, 4)
        self.expect_fault("(if a) then b else c", 4, 5)
        self.expect_fault("[if a then b]", 4, 12)
        self.expect_fault("[if a then b, c]", 4, 12)

    def test_if_stands_only_where_an_expression_begins(self):
        self.expect_fault("-if a then b else c", 4, 1)
        self.expect_fault("!if a then b else c", 4, 1)
        self.expect_fault("a | if a then b else c", 4, 4)
        self.expect_fault("a if", 4, 2)

    def test_only_one_comparison_is_taken(self):
        for first in "=<":
            for second in "=<":
                self.expect_fault(f"a{first}b{second}c", 4, 3)
                self.expect_fault(f"(a{first}b{second}c)", 4, 4)
                self.expect_fault(f"d&a{first}b+1{second}c", 4, 7)
                self.expect_fault(f"if a then b else c{first}d{second}e", 4, 20)
                self.expect_parts(f"a{first}b&c{second}d", 7)
                self.expect_parts(f"a{first}b|c{second}d", 7)
                self.expect_parts(f"(a{first}b){second}c", 5)
                self.expect_parts(f"a{first}(b{second}c)", 5)

    def test_nothing_goes_on_behind_an_if(self):
        self.expect_fault("[if a then b else c < d < e + 1]", 4, 24)
        self.expect_parts("if a then b else c + d | e", 8)


class Calls(ReadTest):
    def test_a_name_that_is_no_call(self):
        self.expect_fault("f(a)", 6, 0)
        self.expect_fault("f (", 6, 0)
        self.expect_fault("1 + lens(a)", 6, 4)
        self.expect_fault("len(f(", 6, 4)
        self.expect_fault("f())))", 6, 0)

    def test_a_wrong_count_is_met_at_the_closing_bracket(self):
        self.expect_fault("len()", 6, 0)
        self.expect_fault("max(1, 2, 3)", 6, 0)
        self.expect_fault("max(1, 2, 3", 4, 11)
        self.expect_fault("max(1, 2, )", 4, 10)
        self.expect_fault("max(1, f(2))", 6, 7)
        self.expect_fault("max(1, len()", 6, 7)
        self.expect_fault("max(1) )", 6, 0)
        self.expect_fault("max(len(a, b), c, d)", 6, 4)


class Levels(ReadTest):
    def test_30_and_31_levels(self):
        for begin, end in [("(", ")"), ("[", "]"), ("-", ""), ("!", "")]:
            self.assertEqual(last(read(begin * 30 + "a" + end * 30))[0], 0)
            self.expect_fault(begin * 31 + "a" + end * 31, 5, 30)

    def test_30_and_31_calls(self):
        self.expect_parts("len(" * 30 + "a" + ")" * 30, 31)
        self.expect_fault("len(" * 31 + "a" + ")" * 31, 5, 123)

    def test_30_and_31_ifs(self):
        third = "if a then b else "
        self.assertEqual(last(read(third * 19 + "a")), [0, 58])
        self.expect_fault(third * 30 + "a", 7, 0)
        self.expect_fault(third * 31 + "a", 5, 30 * len(third))
        self.expect_fault("if " * 31, 5, 90)
        self.expect_fault("if a then " * 31, 5, 300)
        self.expect_parts("(" * 29 + "if a then b else c" + ")" * 29, 4)
        self.expect_fault("(" * 30 + "if a then b else c", 5, 30)

    def test_a_level_ends_with_what_it_belongs_to(self):
        deep = "-" * 28 + "a"
        self.expect_parts("[" + deep + " + " + deep + "]", 60)
        self.expect_parts("(" * 30 + "a" + ")" * 30 + " + " + "(" * 30 + "a" + ")" * 30, 3)
        self.expect_parts("(" * 29 + "-a + -a + (a)" + ")" * 29, 7)
        self.expect_fault("(" * 29 + "-(a" + ")" * 30, 5, 30)
        self.expect_fault("(" * 29 + "--a" + ")" * 29, 5, 30)
        self.expect_parts("if " + "(" * 29 + "a" + ")" * 29 + " then " + "[" * 29 + "]" * 29 + " else b", 32)
        self.expect_parts("(if a then b else c) + " + "(" * 30 + "a" + ")" * 30, 6)

    def test_a_level_that_has_ended_makes_room_for_no_more_than_one(self):
        for ended in ["-a", "!a", "(a)", "[]", "[a]", "len(a)", "(if a then b else c)", "-(a)"]:
            self.assertEqual(last(read(ended + "+" + "(" * 30 + "a" + ")" * 30))[0], 0)
            self.expect_fault(ended + "+" + "(" * 31, 5, len(ended) + 31)

    def test_a_token_that_can_not_stand_there_comes_first(self):
        self.expect_fault("-" * 30 + "if", 4, 30)
        self.expect_fault("-" * 30 + ")", 4, 30)
        self.expect_fault("(" * 30 + "a(", 6, 30)
        self.expect_fault("(" * 30 + "len(", 5, 33)
        self.expect_fault("(" * 30 + "len (", 5, 34)
        self.expect_fault("(" * 30 + "a [", 4, 32)
        self.expect_fault("(" * 30 + "2.len(", 4, 35)

    def test_very_deep_texts(self):
        self.expect_fault("(" * 3000, 5, 30)
        self.expect_fault("-" * 3000, 5, 30)
        self.expect_fault("if " * 1000, 5, 90)
        self.expect_fault("a" + "+a" * 1499, 7, 0)
        self.expect_fault("[" + "a," * 1498 + "a]", 7, 0)


class Parts(ReadTest):
    def test_60_and_61_parts(self):
        self.expect_parts("[" + ",".join("a" * 59) + "]", 60)
        self.expect_fault("[" + ",".join("a" * 60) + "]", 7, 0)
        self.expect_parts("1" + "+1" * 29, 59)
        self.expect_parts("-1" + "+1" * 29, 60)
        self.expect_fault("1" + "+1" * 30, 7, 0)

    def test_the_place_is_that_of_the_first_token(self):
        self.expect_fault(" \n 1" + "+1" * 30, 7, 3)
        self.expect_fault("  ((1" + "+1" * 30 + "))", 7, 2)

    def test_it_is_met_ahead_of_a_token_left_behind(self):
        long = "1" + "+1" * 30
        self.expect_fault(long + " a", 7, 0)
        self.expect_fault(long + ")", 7, 0)
        self.expect_fault(long + "<1<1", 7, 0)
        self.expect_fault("1<" + long + "<1", 7, 0)

    def test_it_is_met_behind_all_faults_within(self):
        long = "1" + "+1" * 30
        self.expect_fault(long + "+", 4, 62)
        self.expect_fault("(" + long, 4, 62)
        self.expect_fault("(" + long + "]", 4, 62)
        self.expect_fault("(1<" + long + "<1)", 4, 64)
        self.expect_fault("max(" + long + ")", 6, 0)
        self.expect_fault(long + "+f(1)", 6, 62)


class Lengths(ReadTest):
    def test_texts_of_3000_and_3001_bytes(self):
        self.expect_parts("a" + " " * 2999, 1)
        self.assertEqual(last(read("a" + " " * 3000)), [-1])
        self.expect_fault(" " * 3000, 4, 3000)
        self.assertEqual(last(read(" " * 3001)), [-1])

    def test_a_long_text_is_refused_whatever_it_is(self):
        self.assertEqual(last(read("_" * 3001)), [-1])
        self.assertEqual(last(read("a" * 4000)), [-1])


if __name__ == "__main__":
    unittest.main()
