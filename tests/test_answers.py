import unittest

from onexpression.holder import answers
from tests.helper import (BACK, BINDINGS, FACTS, FOLD, FORM, SEEN, WORK, asked, bind, form_of, free, own, put, read,
                          same, try_out)

MIXED = [read("a + #"), bind(0, "a", [1, 2, 0, 7, 1, 0]), own(-4), FORM, FACTS, BINDINGS, WORK, SEEN, try_out("[a, #]"),
         same("0.a + #"), put(0, "a", "len(a)"), WORK, free(0, "a"), WORK, read("a b"), read("a" * 3001),
         bind(-1, "a", [0, 1]), free(0, "A"), own(10 ** 18), BINDINGS, read("0 + len([a, 1 + 1])"), FOLD, FORM, BACK,
         FORM, put(3, "a", "1"), BACK, BACK, BACK, FORM, BACK, BACK, FOLD]


def joined(calls):
    return [number for call in calls for number in call]


class TheList(unittest.TestCase):
    def test_each_answer_has_its_count_ahead(self):
        self.assertEqual(answers(joined([FORM, read("a"), FORM, read(""), own(2), BINDINGS])),
                         [1, -2, 2, 0, 1, 2, 0, 97, 3, 1, 4, 0, 1, 0, 3, 0, 2, 0])

    def test_one_call(self):
        self.assertEqual(answers([6]), [3, 0, 0, 0])

    def test_60_calls(self):
        self.assertEqual(answers([1] * 60), [1, -2] * 60)

    def test_calls_of_all_kinds_between_one_another(self):
        self.assertEqual(asked(*MIXED), [
            [0, 3], [0], [0], [0, *b"a + #"], [0, 3, 0, 1, 1, 1, 0, 1, 97], [0, -4, 1, 0, 1, 97, 1, 2, 0, 7, 1, 0],
            [0, 2, 1], [0, 1, 0, 1, 97], [0, 1, 2, 1, 2, 0, 7, 1, 0, 0, -4], [1], [0, 1], [0, 0, -2], [1], [0, 2, 1],
            [1, 4, 2], [-1], [-3], [-4], [-7], [0, -4, 0], [0, 8], [0, 4], [0, *b"len([a, 2])"], [0],
            [0, *b"0 + len([a, 1 + 1])"], [0, 0], [0], [0], [0], [0, *b"a + #"], [0], [-11], [-2]])

    def test_what_is_handed_in_stays_as_it_was(self):
        calls = joined(MIXED)
        copy = list(calls)
        answers(calls)
        self.assertEqual(calls, copy)

    def test_nothing_is_kept_from_one_time_to_the_next(self):
        calls = joined(MIXED)
        first = answers(calls)
        self.assertEqual(answers(joined([FORM, FACTS, BINDINGS, WORK, BACK, try_out("[a, #]")])),
                         [1, -2, 1, -2, 3, 0, 0, 0, 1, -2, 1, -11, 7, 0, 1, 2, 0, 0, 0, 0])
        self.assertEqual(answers(calls), first)

    def test_what_is_given_back_is_a_new_list_of_whole_numbers(self):
        calls = joined(MIXED)
        found = answers(calls)
        self.assertIs(type(found), list)
        self.assertEqual({type(number) for number in found}, {int})
        found.clear()
        self.assertNotEqual(answers(calls), found)

    def test_rows_that_look_like_calls_are_not_taken_for_them(self):
        found = asked(read([6, 6, 6]), bind(0, "a", [3, 0, 1, 97]), bind(6, "f", [0, 6]), BINDINGS)
        self.assertEqual(found, [[1, 1, 0], [-5], [0], [0, 0, 1, 6, 1, 102, 0, 6]])


class Refusals(unittest.TestCase):
    REFUSED = [read("a" * 3001), read("a b"), read("_"), read("f("), read("-" * 31 + "a"), read("1" + "+1" * 30),
               bind(-1, "a", [0, 1]), bind(0, "A", [0, 1]), bind(0, "v", [0]), free(-1, "v"), free(0, "if"),
               own(10 ** 18), own(-10 ** 18), try_out("a" * 3001), try_out("1 1"), same("a" * 3001), same("1 1"),
               put(-1, "v", "1"), put(0, "V", "1"), put(0, "v", "a" * 3001), put(0, "v", "1 1"),
               put(0, "v", "1" + "+1" * 29)]

    def test_a_refused_call_changes_nothing(self):
        before = [read("v + #"), bind(0, "v", [2, 3]), own(8)]
        look = [FORM, FACTS, BINDINGS, WORK, SEEN, BACK, FORM, BACK]
        expected = asked(*before, *look)[3:]
        for refused in self.REFUSED:
            found = asked(*before, refused, *look)
            self.assertTrue(found[3][0] < 0 or found[3][0] == 1)
            self.assertEqual(found[4:], expected)

    def test_a_refusal_is_its_number_alone(self):
        for refused in [FORM, FACTS, read("a" * 3001), bind(-1, "a", []), free(0, ""), own(10 ** 18), WORK, SEEN, FOLD,
                        BACK, try_out(""), same(""), same("a"), put(0, "", ""), put(0, "a", ""), put(0, "a", "a")]:
            self.assertLess(asked(refused)[0][0], 0)
            self.assertEqual(len(asked(refused)[0]), 1)


class Depth(unittest.TestCase):
    def test_long_and_deep_inputs_are_gone_through_by_loops(self):
        self.assertEqual(asked(read("1" + "+1" * 1499))[0], [1, 7, 0])
        self.assertEqual(asked(read("(" * 3000))[0], [1, 5, 30])
        self.assertEqual(asked(bind(0, "v", [1, 1] * 1999 + [1, 0]))[0], [-5])
        self.assertEqual(asked(try_out("1" + "+1" * 1499))[0], [-9])
        self.assertEqual(asked(same("(" * 3000))[0], [-9])
        self.assertEqual(asked(read("v"), put(0, "v", "[" * 3000))[1], [-9])
        self.assertEqual(form_of("a" + "-a" * 29), "a" + " - a" * 29)


if __name__ == "__main__":
    unittest.main()
