import unittest

from onexpression.holder import Holder, answers
from tests.helper import BINDINGS, FACTS, FORM, asked, bind, form_of, free, own, read

MIXED = [read("a + #"), bind(0, "a", [1, 2, 0, 7, 1, 0]), own(-4), FORM, FACTS, BINDINGS, free(0, "a"), read("a b"),
         read("a" * 3001), bind(-1, "a", [0, 1]), free(0, "A"), own(10 ** 18), BINDINGS]


def joined(calls):
    return [number for call in calls for number in call]


class TheList(unittest.TestCase):
    def test_each_answer_has_its_count_ahead(self):
        self.assertEqual(answers(joined([FORM, read("a"), FORM, read(""), own(2), BINDINGS])),
                         [1, -2, 2, 0, 1, 2, 0, 97, 3, 1, 4, 0, 1, 0, 3, 0, 2, 0])

    def test_one_call(self):
        self.assertEqual(answers([6]), [3, 0, 0, 0])

    def test_60_calls(self):
        self.assertEqual(answers([1] * 60), [1, -2] * 60)

    def test_what_is_handed_in_stays_as_it_was(self):
        calls = joined(MIXED)
        copy = list(calls)
        answers(calls)
        self.assertEqual(calls, copy)

    def test_nothing_is_kept_from_one_time_to_the_next(self):
        calls = joined(MIXED)
        first = answers(calls)
        self.assertEqual(answers(joined([FORM, FACTS, BINDINGS])), [1, -2, 1, -2, 3, 0, 0, 0])
        self.assertEqual(answers(calls), first)

    def test_what_is_given_back_is_a_new_list_of_whole_numbers(self):
        calls = joined(MIXED)
        found = answers(calls)
        self.assertIs(type(found), list)
        self.assertEqual({type(number) for number in found}, {int})
        found.clear()
        self.assertNotEqual(answers(calls), found)

    def test_rows_that_look_like_calls_are_not_taken_for_them(self):
        found = asked(read([6, 6, 6]), bind(0, "a", [3, 0, 1, 97]), bind(6, "f", [0, 6]), BINDINGS)
        self.assertEqual(found, [[1, 1, 0], [-5], [0], [0, 0, 1, 6, 1, 102, 0, 6]])


class Refusals(unittest.TestCase):
    REFUSED = [read("a" * 3001), read("a b"), read("_"), read("f("), read("-" * 31 + "a"), read("1" + "+1" * 30),
               bind(-1, "a", [0, 1]), bind(0, "A", [0, 1]), bind(0, "v", [0]), free(-1, "v"), free(0, "if"),
               own(10 ** 18), own(-10 ** 18)]

    def test_a_refused_call_changes_nothing(self):
        before = [read("v + #"), bind(0, "v", [2, 3]), own(8)]
        look = [FORM, FACTS, BINDINGS]
        expected = asked(*before, *look)[3:]
        for refused in self.REFUSED:
            found = asked(*before, refused, *look)
            self.assertTrue(found[3][0] < 0 or found[3][0] == 1)
            self.assertEqual(found[4:], expected)

    def test_a_refusal_is_its_number_alone(self):
        for refused in [FORM, FACTS, read("a" * 3001), bind(-1, "a", []), free(0, ""), own(10 ** 18)]:
            self.assertEqual(len(asked(refused)[0]), 1)


class WhatIsKept(unittest.TestCase):
    """Nothing answers yet what is kept, so these look at the object itself."""

    @staticmethod
    def holder(texts):
        holder = Holder()
        for text in texts:
            holder.read(list(text.encode()))
        return holder

    @staticmethod
    def first_numbers(expressions):
        return [None if expression is None else expression[0].number for expression in expressions]

    def test_nothing_is_kept_at_the_beginning(self):
        self.assertEqual(self.holder([]).kept, [])

    def test_none_is_kept_too(self):
        self.assertEqual(self.first_numbers(self.holder(["1", "2"]).kept), [None, 1])

    def test_the_last_8(self):
        self.assertEqual(self.first_numbers(self.holder("12345678").kept), [None, 1, 2, 3, 4, 5, 6, 7])
        self.assertEqual(self.first_numbers(self.holder("123456789").kept), [1, 2, 3, 4, 5, 6, 7, 8])

    def test_a_fault_or_a_refusal_keeps_nothing(self):
        self.assertEqual(self.first_numbers(self.holder(["1", "1 1", " " * 3001, "_", "2"]).kept), [None, 1])


class Depth(unittest.TestCase):
    def test_long_and_deep_inputs_are_gone_through_by_loops(self):
        self.assertEqual(asked(read("1" + "+1" * 1499))[0], [1, 7, 0])
        self.assertEqual(asked(read("(" * 3000))[0], [1, 5, 30])
        self.assertEqual(asked(bind(0, "v", [1, 1] * 1999 + [1, 0]))[0], [-5])
        self.assertEqual(form_of("a" + "-a" * 29), "a" + " - a" * 29)


if __name__ == "__main__":
    unittest.main()
