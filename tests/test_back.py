import unittest

from tests.helper import (BACK, BINDINGS, FACTS, FOLD, FORM, SEEN, WORK, asked, bind, free, last, own, put, read, same,
                          try_out)


def forms(*calls):
    """The form that is held behind each call, as a str, or None."""
    found = asked(*[step for call in calls for step in (call, FORM)])[1::2]
    return [bytes(answer[1:]).decode() if answer[0] == 0 else None for answer in found]


class Back(unittest.TestCase):
    def test_nothing_is_kept_at_the_beginning(self):
        self.assertEqual(asked(BACK, FORM), [[-11], [-2]])

    def test_to_none(self):
        self.assertEqual(asked(read("a"), BACK, FORM, BACK, FORM), [[0, 1], [0], [-2], [-11], [-2]])
        for call in [FORM, FACTS, WORK, SEEN, FOLD, same("a"), put(0, "a", "b")]:
            self.assertEqual(last(read("a"), BACK, call), [-2])

    def test_after_read(self):
        self.assertEqual(forms(read("a"), read("b"), BACK, BACK), ["a", "b", "a", None])

    def test_after_fold(self):
        self.assertEqual(forms(read("1 + 2"), FOLD, BACK, BACK), ["1 + 2", "3", "1 + 2", None])

    def test_after_put(self):
        self.assertEqual(forms(read("a + b"), put(0, "a", "c"), BACK, BACK), ["a + b", "c + b", "a + b", None])

    def test_what_is_the_same_is_kept_too(self):
        calls = [read("a"), read("a"), FOLD, put(0, "b", "c"), put(0, "a", "a")]
        self.assertEqual(asked(*calls, *[BACK] * 6)[5:], [[0]] * 5 + [[-11]])

    def test_of_all_of_them_in_turn(self):
        calls = [read("v + (1 + 1)"), FOLD, put(0, "v", "2"), FOLD, read("w")]
        before = [None, "v + (1 + 1)", "v + 2", "2 + 2", "4", "w"]
        self.assertEqual(forms(*calls), before[1:])
        self.assertEqual(forms(*calls, *[BACK] * 5)[5:], before[-2::-1])

    def test_what_is_held_again_can_be_folded_and_put_into(self):
        self.assertEqual(forms(read("v + (1 + 1)"), FOLD, BACK, put(0, "v", "3"), FOLD, BACK, BACK, BACK),
                         ["v + (1 + 1)", "v + 2", "v + (1 + 1)", "3 + (1 + 1)", "5", "3 + (1 + 1)", "v + (1 + 1)",
                          None])

    def test_back_itself_keeps_nothing(self):
        self.assertEqual(asked(read("a"), read("b"), BACK, BACK, BACK)[2:], [[0], [0], [-11]])
        self.assertEqual(forms(read("a"), read("b"), BACK, read("c"), BACK, BACK), ["a", "b", "a", "c", "a", None])


class TheLastEight(unittest.TestCase):
    def test_eight_steps(self):
        calls = [read(str(number)) for number in range(8)]
        self.assertEqual(forms(*calls, *[BACK] * 8)[8:], ["6", "5", "4", "3", "2", "1", "0", None])
        self.assertEqual(last(*calls, *[BACK] * 9), [-11])

    def test_nine_steps(self):
        calls = [read(str(number)) for number in range(9)]
        self.assertEqual(forms(*calls, *[BACK] * 8)[9:], ["7", "6", "5", "4", "3", "2", "1", "0"])
        self.assertEqual(asked(*calls, *[BACK] * 9, FORM)[-2:], [[-11], [0, 48]])

    def test_many_steps(self):
        calls = [read(str(number)) for number in range(30)]
        self.assertEqual(forms(*calls, *[BACK] * 9)[30:], ["28", "27", "26", "25", "24", "23", "22", "21", "21"])

    def test_folds_and_puts_count_as_well(self):
        calls = [read("0"), read("1"), *[FOLD, put(0, "v", "1")] * 4]
        self.assertEqual(asked(*calls, *[BACK] * 9)[10:], [[0]] * 8 + [[-11]])
        self.assertEqual(forms(*calls, *[BACK] * 9)[-1], "1")

    def test_what_is_taken_back_makes_room(self):
        calls = [read(str(number)) for number in range(9)]
        self.assertEqual(forms(*calls, BACK, BACK, read("x"), read("y"), *[BACK] * 9)[13:],
                         ["x", "6", "5", "4", "3", "2", "1", "0", "0"])


class WhatIsNotKept(unittest.TestCase):
    def test_what_refused_or_told_a_fault(self):
        deep = "".join("!-"[place % 2] for place in range(29)) + "[x, 1 - 5]"
        for call in [read("a b"), read("_"), read("a" * 3001), FOLD, put(-1, "x", "1"), put(0, "A", "1"),
                     put(0, "x", "a" * 3001), put(0, "x", "1 1"), put(0, "x", "[1, 2]"), put(0, "x", "-" * 29 + "a"),
                     put(0, "x", "-a"),
                     same("1 1"), same("a" * 3001), try_out("1 1"), try_out("a" * 3001)]:
            found = asked(read(deep), call, BACK, FORM, BACK)
            self.assertTrue(found[1][0] < 0 or found[1][0] == 1, call)
            self.assertEqual(found[2:], [[0], [-2], [-11]], call)

    def test_what_was_refused_while_none_was_held(self):
        self.assertEqual(asked(FOLD, put(0, "v", "1"), same("a"), read("1 1"), BACK)[-1], [-11])

    def test_calls_that_hold_nothing_anew(self):
        for call in [FORM, FACTS, WORK, SEEN, BINDINGS, own(3), bind(0, "v", [0, 1]), free(0, "v"), try_out("7"),
                     same("7")]:
            self.assertEqual(asked(read("v"), call, BACK, FORM, BACK)[2:], [[0], [-2], [-11]], call)

    def test_bindings_and_the_own_number_stay(self):
        found = asked(read("v + #"), bind(0, "v", [0, 3]), own(4), read("w"), BACK, WORK, BINDINGS)
        self.assertEqual(found[4:], [[0], [0, 0, 7], [0, 4, 1, 0, 1, 118, 0, 3]])


if __name__ == "__main__":
    unittest.main()
