import unittest

from tests.helper import (BINDINGS, FORM, GOOD_NAMES, LARGEST, WRONG_NAMES, WRONG_PLACES, asked, bind, free, last, own,
                          read, row)


def bound(*bindings):
    """The answer of bindings with the own number 0 and these (place, name, outcome)."""
    answer = [0, 0, len(bindings)]
    for place, name, outcome in bindings:
        answer += [place, *row(name), *outcome]
    return answer


def nested(depth, inmost):
    """The flat form of a list of this depth, its inmost list holding the one element told by inmost, if any."""
    return [1, 1] * (depth - 1) + ([1, 1] + inmost if inmost else [1, 0])


class Bind(unittest.TestCase):
    def expect_good(self, outcome):
        self.assertEqual(asked(bind(3, "v", outcome), BINDINGS), [[0], bound((3, "v", outcome))])

    def expect_wrong(self, outcome):
        self.assertEqual(asked(bind(3, "v", outcome), BINDINGS), [[-5], bound()], outcome)

    def test_numbers(self):
        for number in [0, 1, -1, LARGEST, -LARGEST]:
            self.expect_good([0, number])
            self.expect_good([1, 1, 0, number])
        for number in [LARGEST + 1, -LARGEST - 1]:
            self.expect_wrong([0, number])
            self.expect_wrong([1, 1, 0, number])

    def test_faults(self):
        for fault in [1, 2, 3, 4, 5]:
            self.expect_good([2, fault])
        for fault in [0, 6, -1, LARGEST + 1]:
            self.expect_wrong([2, fault])

    def test_lists(self):
        self.expect_good([1, 0])
        self.expect_good([1, 2, 0, 7, 1, 0])
        self.expect_good([1, 3, 1, 2, 0, 1, 0, 5, 0, 3, 1, 2, 0, 1, 0, 6])
        self.expect_wrong([1, -1])
        self.expect_wrong([1, 1, 1, -1])
        self.expect_wrong([1, LARGEST + 1])

    def test_a_fault_is_no_element(self):
        self.expect_wrong([1, 1, 2, 1])
        self.expect_wrong([1, 2, 0, 7, 2, 3])

    def test_other_marks(self):
        for mark in [3, -1, LARGEST]:
            self.expect_wrong([mark, 1])
            self.expect_wrong([1, 1, mark, 0])

    def test_lists_of_400_and_401_parts(self):
        self.expect_good([1, 399] + [0, 5] * 399)
        self.expect_wrong([1, 400] + [0, 5] * 400)
        self.expect_good([1, 2, 1, 198] + [0, 5] * 198 + [1, 199] + [1, 0] * 199)
        self.expect_wrong([1, 2, 1, 199] + [0, 5] * 199 + [1, 199] + [1, 0] * 199)
        self.expect_wrong([1, 1999] + [0, 5] * 1999)

    def test_lists_of_the_depth_20_and_21(self):
        self.expect_good(nested(20, []))
        self.expect_good(nested(20, [0, 7]))
        self.expect_wrong(nested(21, []))
        self.expect_wrong(nested(21, [0, 7]))
        self.expect_good([1, 3, 0, 1] + nested(19, []) + nested(19, [0, 1]))
        self.expect_wrong([1, 3, 0, 1] + nested(19, []) + nested(20, []))
        self.expect_wrong(nested(2000, []))

    def test_something_behind_the_outcome(self):
        for outcome in [[0, 7], [2, 3], [1, 0], [1, 1, 0, 7]]:
            for behind in [[0], [0, 7], [1, 0], [2, 1]]:
                self.expect_wrong(outcome + behind)

    def test_a_row_that_ends_too_early(self):
        self.expect_wrong([])
        for outcome in [[0, 7], [2, 3], [1, 0], [1, 2, 0, 7, 1, 0], [1, 1, 1, 1, 0, 1]]:
            for length in range(len(outcome)):
                self.expect_wrong(outcome[:length])
        self.expect_wrong([1, 3, 0, 7, 1, 0])

    def test_places(self):
        for place in [0, 1, LARGEST]:
            self.assertEqual(asked(bind(place, "v", [0, 1]), BINDINGS), [[0], bound((place, "v", [0, 1]))])
        for place in WRONG_PLACES:
            self.assertEqual(asked(bind(place, "v", [0, 1]), BINDINGS), [[-3], bound()])

    def test_names(self):
        for name in GOOD_NAMES:
            self.assertEqual(asked(bind(0, name, [0, 1]), BINDINGS), [[0], bound((0, name, [0, 1]))])
        for name in WRONG_NAMES:
            self.assertEqual(asked(bind(0, name, [0, 1]), BINDINGS), [[-4], bound()], name)

    def test_an_occurrence_that_is_not_in_the_expression(self):
        self.assertEqual(asked(read("a"), bind(7, "b", [2, 1]), BINDINGS)[1:], [[0], bound((7, "b", [2, 1]))])

    def test_the_order_of_the_refusals(self):
        full = [bind(place, "v", [0, place]) for place in range(20)]
        self.assertEqual(last(*full, bind(-1, "A", [0])), [-3])
        self.assertEqual(last(*full, bind(20, "A", [0])), [-4])
        self.assertEqual(last(*full, bind(20, "v", [0])), [-5])
        self.assertEqual(last(*full, bind(20, "v", [0, 1])), [-6])
        self.assertEqual(last(*full, bind(19, "v", [0])), [-5])
        self.assertEqual(last(*full, bind(19, "v", [0, 1])), [0])


class Order(unittest.TestCase):
    def test_20_and_21_bound_occurrences(self):
        names = ["v", "w"]
        full = [bind(place, name, [0, place]) for place in range(10) for name in names]
        expected = bound(*[(place, name, [0, place]) for place in range(10) for name in names])
        self.assertEqual(asked(*full, BINDINGS), [[0]] * 20 + [expected])
        self.assertEqual(asked(*full, bind(10, "v", [0, 1]), BINDINGS)[20:], [[-6], expected])
        self.assertEqual(asked(*full, bind(0, "x", [0, 1]), BINDINGS)[20:], [[-6], expected])

    def test_one_of_20_may_be_bound_again(self):
        full = [bind(place, "v", [0, place]) for place in range(20)]
        expected = bound(*[(place, "v", [1, 0] if place == 7 else [0, place]) for place in range(20)])
        self.assertEqual(asked(*full, bind(7, "v", [1, 0]), BINDINGS)[20:], [[0], expected])

    def test_a_freed_one_makes_room(self):
        full = [bind(place, "v", [0, place]) for place in range(20)]
        found = asked(*full, free(3, "v"), bind(30, "v", [2, 4]), bind(3, "v", [0, 0]), BINDINGS)[20:]
        kept = [(place, "v", [0, place]) for place in range(20) if place != 3]
        self.assertEqual(found, [[1], [0], [-6], bound(*kept, (30, "v", [2, 4]))])

    def test_one_that_is_bound_again_keeps_its_place(self):
        calls = [bind(1, "a", [0, 1]), bind(2, "b", [0, 2]), bind(1, "a", [2, 5]), BINDINGS]
        self.assertEqual(last(*calls), bound((1, "a", [2, 5]), (2, "b", [0, 2])))

    def test_one_that_is_freed_and_bound_again_is_the_last(self):
        calls = [bind(1, "a", [0, 1]), bind(2, "b", [0, 2]), free(1, "a"), bind(1, "a", [0, 1]), BINDINGS]
        self.assertEqual(last(*calls), bound((2, "b", [0, 2]), (1, "a", [0, 1])))

    def test_place_and_name_make_the_occurrence(self):
        calls = [bind(1, "a", [0, 1]), bind(1, "b", [0, 2]), bind(0, "a", [0, 3]), bind(1, "aA", [0, 4]), BINDINGS]
        self.assertEqual(last(*calls), bound((1, "a", [0, 1]), (1, "b", [0, 2]), (0, "a", [0, 3]), (1, "aA", [0, 4])))

    def test_they_are_not_sorted(self):
        calls = [bind(9, "z", [0, 1]), bind(0, "m", [0, 2]), bind(5, "a", [0, 3]), BINDINGS]
        self.assertEqual(last(*calls), bound((9, "z", [0, 1]), (0, "m", [0, 2]), (5, "a", [0, 3])))

    def test_nothing_is_bound_at_the_beginning(self):
        self.assertEqual(last(BINDINGS), [0, 0, 0])


class Free(unittest.TestCase):
    def test_what_is_bound_and_what_is_not(self):
        found = asked(bind(1, "a", [0, 1]), bind(2, "a", [0, 2]), free(3, "a"), free(1, "b"), free(1, "a"),
                      free(1, "a"), BINDINGS)
        self.assertEqual(found[2:], [[0], [0], [1], [0], bound((2, "a", [0, 2]))])

    def test_nothing_is_bound(self):
        self.assertEqual(asked(free(0, "a"), BINDINGS), [[0], bound()])

    def test_wrong_places_and_names(self):
        kept = bind(0, "a", [0, 1])
        for place in WRONG_PLACES:
            self.assertEqual(asked(kept, free(place, "a"), BINDINGS)[1:], [[-3], bound((0, "a", [0, 1]))])
            self.assertEqual(last(free(place, "A")), [-3])
        for name in WRONG_NAMES:
            self.assertEqual(asked(kept, free(0, name), BINDINGS)[1:], [[-4], bound((0, "a", [0, 1]))], name)
        for name in GOOD_NAMES:
            self.assertEqual(asked(bind(LARGEST, name, [0, 1]), free(LARGEST, name), BINDINGS)[1:], [[1], bound()])


class Own(unittest.TestCase):
    def test_numbers_in_and_out_of_range(self):
        for number in [0, 1, -1, LARGEST, -LARGEST]:
            self.assertEqual(asked(own(number), BINDINGS), [[0], [0, number, 0]])
        for number in [LARGEST + 1, -LARGEST - 1]:
            self.assertEqual(asked(own(5), own(number), BINDINGS), [[0], [-7], [0, 5, 0]])

    def test_the_last_one_counts(self):
        self.assertEqual(last(own(5), own(-6), BINDINGS), [0, -6, 0])

    def test_it_stands_ahead_of_the_bindings(self):
        self.assertEqual(last(bind(2, "ab", [1, 1, 0, 9]), own(-3), BINDINGS),
                         [0, -3, 1, 2, 2, 97, 98, 1, 1, 0, 9])


class Apart(unittest.TestCase):
    def test_bindings_and_the_expression_are_apart(self):
        found = asked(bind(0, "a", [0, 5]), own(3), read("a + #"), BINDINGS, FORM, read("b"), BINDINGS,
                      free(0, "a"), own(0), FORM)
        self.assertEqual(found[3], [0, 3, 1, 0, 1, 97, 0, 5])
        self.assertEqual(found[6], found[3])
        self.assertEqual(found[4], [0, *b"a + #"])
        self.assertEqual(found[9], [0, *b"b"])


if __name__ == "__main__":
    unittest.main()
