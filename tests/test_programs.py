import copy
import unittest

from boxwright.errors import BadProgram, BoxError
from boxwright.programs import need_program

LEAST = -2147483648
MOST = 2147483647
TWELVE = ["a", "b", "c", "d", "e", "f", "g", "h", "i", "j", "k", "l"]

EACH_FORM = [
    ("turn",),
    ("take", "one"),
    ("set", "two", 5),
    ("copy", "three", "one"),
    ("do", "four", "sum", "two", "three"),
    ("tell", "four"),
    ("if", "one", 0),
    ("go", 8),
    ("end",),
]


class LikeAll:
    """A thing that is no text, yet says it is equal to any."""

    def __eq__(self, other):
        return True

    def __hash__(self):
        return hash("sum")


NO_NAMES = (LikeAll(), None, 0, True, ["a"], ("a",), {}, b"a", "", "abcdefg", "A", "aB", "a1", "1", "a_", "_", "a b",
            " a", "a ", "a\n", "a\t", "a-b", "\u00e4", "\u03b1", "\uff41")
NO_NUMBERS = (LikeAll(), LEAST - 1, MOST + 1, 10 ** 40, True, False, None, "1", "", 1.0, [1], (1,), {})
NO_WORDS = (LikeAll(), "add", "", "Sum", "sum ", "set", None, 0, True, ["sum"], ("sum",), {})
FIRST_WORDS = (LikeAll(), "", "Set", "set ", "put", "sum", "move", None, 0, True, ["set"], ("set",), {}, b"set")


def rows_with_names(names):
    return [("take", name) for name in names]


class TestPrograms(unittest.TestCase):
    def test_each_form_of_row(self):
        self.assertEqual(need_program(EACH_FORM), ["one", "two", "three", "four"])

    def test_each_deed(self):
        for word in ("sum", "less", "times", "part", "below", "alike"):
            with self.subTest(word):
                self.assertEqual(need_program([("do", "a", word, "b", "c")]), ["a", "b", "c"])

    def test_without_rows(self):
        self.assertEqual(need_program([]), [])

    def test_sixty_rows(self):
        self.assertEqual(need_program([("tell", "x")] * 60), ["x"])
        self.assertEqual(need_program([("turn",)] * 59 + [("go", 60)]), [])

    def test_twelve_names(self):
        self.assertEqual(need_program(rows_with_names(TWELVE)), TWELVE)
        self.assertEqual(need_program(rows_with_names(TWELVE) + [("do", "l", "sum", "a", "b")]), TWELVE)

    def test_names_of_one_and_of_six_letters(self):
        names = ["a", "z", "abcdef", "zzzzzz", "uvwxyz"]
        self.assertEqual(need_program(rows_with_names(names)), names)

    def test_names_may_be_like_words(self):
        rows = [("set", "set", 1), ("do", "do", "sum", "sum", "end"), ("if", "if", 3)]
        self.assertEqual(need_program(rows), ["set", "do", "sum", "end", "if"])

    def test_numbers_at_both_bounds(self):
        self.assertEqual(need_program([("set", "a", LEAST), ("set", "b", MOST), ("set", "c", 0)]), ["a", "b", "c"])

    def test_places_nought_and_the_number_of_rows(self):
        self.assertEqual(need_program([("turn",), ("if", "a", 0), ("if", "a", 4), ("go", 0)]), ["a"])
        self.assertEqual(need_program([("go", 1)]), [])
        self.assertEqual(need_program([("if", "a", 1)]), ["a"])

    def test_jumps_forward_to_any_row(self):
        behind = [("set", "a", 1), ("copy", "a", "a"), ("do", "a", "sum", "a", "a"), ("take", "a"), ("tell", "a"),
                  ("turn",), ("if", "a", 9), ("go", 9), ("end",)]
        for place in range(1, len(behind) + 1):
            with self.subTest(place):
                self.assertEqual(need_program([("go", place)] + behind), ["a"])
                self.assertEqual(need_program([("if", "b", place)] + behind), ["b", "a"])

    def test_jumps_back_to_a_turn(self):
        rows = [("take", "a"), ("turn",), ("turn",), ("if", "a", 1), ("if", "a", 2), ("go", 1), ("go", 2)]
        self.assertEqual(need_program(rows), ["a"])

    def test_names_are_told_as_first_met(self):
        rows = [("tell", "z"), ("do", "y", "sum", "z", "x"), ("copy", "w", "v"), ("if", "u", 6), ("set", "t", 0),
                ("take", "z"), ("do", "s", "less", "s", "r"), ("take", "q")]
        self.assertEqual(need_program(rows), ["z", "y", "x", "w", "v", "u", "t", "s", "r", "q"])

    def test_a_new_list_each_time(self):
        first = need_program(EACH_FORM)
        second = need_program(EACH_FORM)
        self.assertIsNot(first, second)
        first.append("more")
        self.assertEqual(second, ["one", "two", "three", "four"])
        self.assertEqual(need_program(EACH_FORM), ["one", "two", "three", "four"])

    def test_a_new_list_each_time_without_rows(self):
        need_program([]).append("more")
        self.assertEqual(need_program([]), [])

    def test_rows_stay(self):
        rows = list(EACH_FORM)
        before = copy.deepcopy(rows)
        need_program(rows)
        self.assertEqual(rows, before)
        self.assertTrue(all(row is kept for row, kept in zip(rows, EACH_FORM)))

    def test_the_list_told_is_not_the_rows(self):
        rows = []
        self.assertIsNot(need_program(rows), rows)


class TestNoPrograms(unittest.TestCase):
    def expect(self, rows, at):
        with self.assertRaises(BadProgram) as caught:
            need_program(rows)
        self.assertEqual(caught.exception.at, at)
        self.assertIsNot(caught.exception.at, False)
        self.assertIsInstance(caught.exception, BoxError)

    def expect_row(self, row):
        with self.subTest(repr(row)):
            self.expect([row], 0)
            self.expect([("turn",), ("take", "a"), row, ("end",)], 2)

    def test_no_list(self):
        for thing in (None, 0, True, "", "end", (), (("end",),), {}, {0: ("end",)}, set(), object(), list, 1.5):
            with self.subTest(repr(thing)):
                self.expect(thing, None)

    def test_more_than_sixty_rows(self):
        self.expect([("turn",)] * 61, None)
        self.expect([("turn",)] * 500, None)

    def test_more_than_sixty_rows_ahead_of_bad_rows(self):
        self.expect([None] * 61, None)

    def test_a_row_that_is_no_tuple(self):
        for row in (None, 0, True, "end", ["end"], {"end": 0}, {"end"}, object(), [], {}):
            self.expect_row(row)

    def test_a_row_that_is_the_list_of_rows(self):
        rows = [("turn",)]
        rows.append(rows)
        self.expect(rows, 1)

    def test_an_unknown_first_word(self):
        self.expect_row(())
        for word in FIRST_WORDS:
            self.expect_row((word,))
            self.expect_row((word, "a", 1))

    def test_too_few_parts(self):
        for row in (("set",), ("set", "a"), ("copy",), ("copy", "a"), ("do",), ("do", "a"), ("do", "a", "sum"),
                    ("do", "a", "sum", "b"), ("take",), ("tell",), ("if",), ("if", "a"), ("go",)):
            self.expect_row(row)

    def test_too_many_parts(self):
        for row in (("set", "a", 1, 1), ("copy", "a", "b", "c"), ("do", "a", "sum", "b", "c", "d"), ("take", "a", "b"),
                    ("tell", "a", "b"), ("turn", 0), ("turn", None), ("if", "a", 0, 0), ("go", 0, 0), ("end", 0)):
            self.expect_row(row)

    def test_what_is_no_name(self):
        for name in NO_NAMES:
            for row in (("set", name, 1), ("copy", name, "b"), ("copy", "b", name), ("do", name, "sum", "b", "b"),
                        ("do", "b", "sum", name, "b"), ("do", "b", "sum", "b", name), ("take", name),
                        ("tell", name), ("if", name, 1)):
                with self.subTest(repr(row)):
                    self.expect([row], 0)

    def test_what_is_no_number(self):
        for number in NO_NUMBERS:
            self.expect_row(("set", "a", number))

    def test_what_is_no_deed(self):
        for word in NO_WORDS:
            self.expect_row(("do", "a", word, "b", "b"))

    def test_what_is_no_place(self):
        for place in (-1, -2, LEAST, 10 ** 40, True, False, None, "0", "", "a", 0.0, [0], (0,), {}):
            with self.subTest(repr(place)):
                self.expect([("turn",), ("go", place)], 1)
                self.expect([("turn",), ("if", "a", place)], 1)

    def test_true_and_false_are_no_places_where_one_and_nought_are(self):
        self.expect([("turn",), ("turn",), ("go", True)], 2)
        self.expect([("turn",), ("turn",), ("go", False)], 2)
        self.expect([("go", True)], 0)
        self.expect([("if", "a", True)], 0)

    def test_a_place_beyond_the_number_of_rows(self):
        self.expect([("go", 2)], 0)
        self.expect([("if", "a", 2)], 0)
        self.expect([("turn",), ("go", 3)], 1)
        self.expect([("turn",)] * 59 + [("go", 61)], 59)

    def test_a_thirteenth_name_in_each_part(self):
        for row in (("set", "m", 1), ("copy", "m", "a"), ("copy", "a", "m"), ("do", "m", "sum", "a", "a"),
                    ("do", "a", "sum", "m", "a"), ("do", "a", "sum", "a", "m"), ("take", "m"), ("tell", "m"),
                    ("if", "m", 13)):
            with self.subTest(repr(row)):
                self.expect(rows_with_names(TWELVE) + [row], 12)

    def test_the_row_that_brings_the_thirteenth_name(self):
        self.expect(rows_with_names(TWELVE) + [("end",), ("tell", "a"), ("tell", "m"), ("tell", "n")], 14)
        self.expect(rows_with_names(TWELVE[:11]) + [("do", "x", "sum", "y", "z"), ("tell", "m")], 11)
        self.expect(rows_with_names(TWELVE[:10]) + [("do", "x", "sum", "y", "z")], 10)
        self.assertEqual(need_program(rows_with_names(TWELVE[:9]) + [("do", "x", "sum", "y", "z")]),
                         TWELVE[:9] + ["x", "y", "z"])

    def test_jumps_back_to_no_turn(self):
        for row in (("set", "a", 1), ("copy", "a", "a"), ("do", "a", "sum", "a", "a"), ("take", "a"), ("tell", "a"),
                    ("if", "a", 2), ("go", 2), ("end",)):
            with self.subTest(repr(row)):
                self.expect([row, ("turn",), ("go", 0)], 2)
                self.expect([row, ("turn",), ("if", "a", 0)], 2)

    def test_jumps_to_itself(self):
        self.expect([("go", 0)], 0)
        self.expect([("if", "a", 0)], 0)
        self.expect([("turn",), ("go", 1), ("turn",)], 1)
        self.expect([("turn",), ("if", "a", 1), ("turn",)], 1)

    def test_jumps_back_beside_a_turn(self):
        self.expect([("turn",), ("tell", "a"), ("go", 1)], 2)
        self.expect([("tell", "a"), ("turn",), ("go", 0)], 2)

    def test_the_first_of_several(self):
        self.expect([("turn",), ("take", ""), ("go", 9), None, ("go", 0, 0)], 1)
        self.expect([("turn",), ("take", "a"), ("go", 1), None], 2)
        self.expect([("turn",), ("take", "a"), None, ("go", 1)], 2)
        self.expect(rows_with_names(TWELVE) + [("take", "m"), None, ("go", 0)], 12)
        self.expect(rows_with_names(TWELVE) + [("go", 0), ("take", "m")], 12)
        self.expect([None] + rows_with_names(TWELVE) + [("take", "m")], 0)

    def test_a_jump_ahead_to_a_bad_row_is_not_the_first(self):
        self.expect([("go", 1), None], 1)
        self.expect([("if", "a", 2), ("end",), ("tell", "A")], 2)

    def test_names_of_bad_rows_do_not_stay_between_calls(self):
        self.expect(rows_with_names(TWELVE) + [None], 12)
        self.assertEqual(need_program([("tell", "zz")]), ["zz"])

    def test_rows_stay_where_refused(self):
        rows = [("turn",), ["end"], ("go", 1)]
        self.expect(rows, 1)
        self.assertEqual(rows, [("turn",), ["end"], ("go", 1)])


if __name__ == "__main__":
    unittest.main()
