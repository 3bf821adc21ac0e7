import unittest

from boxwright.deeds import HALF, fit, is_number, reckoned
from boxwright.errors import ByNought

LEAST = -2147483648
MOST = 2147483647
ROUND = 4294967296

NO_NUMBERS = (None, "", "0", "seven", [], [0], (), (0,), {}, {0: 0}, set(), 0.0, 1.5, b"1", object(), int)


class TestNumbers(unittest.TestCase):
    def test_half(self):
        self.assertEqual(HALF, 2147483648)
        self.assertIs(type(HALF), int)

    def test_numbers_within_and_at_the_bounds(self):
        for number in (LEAST, LEAST + 1, -1, 0, 1, MOST - 1, MOST):
            with self.subTest(number):
                self.assertIs(is_number(number), True)

    def test_whole_numbers_beyond_the_bounds_are_none(self):
        for number in (LEAST - 1, MOST + 1, -ROUND, ROUND, -10 ** 40, 10 ** 40):
            with self.subTest(number):
                self.assertIs(is_number(number), False)

    def test_true_and_false_are_none(self):
        self.assertIs(is_number(True), False)
        self.assertIs(is_number(False), False)

    def test_other_kinds_are_none(self):
        for thing in NO_NUMBERS:
            with self.subTest(repr(thing)):
                self.assertIs(is_number(thing), False)


class TestFit(unittest.TestCase):
    def test_numbers_fit_as_they_are(self):
        for number in (LEAST, LEAST + 1, -7, -1, 0, 1, 7, MOST - 1, MOST):
            with self.subTest(number):
                self.assertEqual(fit(number), number)

    def test_just_beyond(self):
        self.assertEqual(fit(MOST + 1), LEAST)
        self.assertEqual(fit(MOST + 2), LEAST + 1)
        self.assertEqual(fit(LEAST - 1), MOST)
        self.assertEqual(fit(LEAST - 2), MOST - 1)

    def test_whole_rounds_beyond(self):
        for rounds in (1, 2, 3, 10 ** 30):
            for number in (LEAST, -5, 0, 5, MOST):
                with self.subTest((rounds, number)):
                    self.assertEqual(fit(number + rounds * ROUND), number)
                    self.assertEqual(fit(number - rounds * ROUND), number)

    def test_far_beyond_leaves_the_same_rest(self):
        for number in (10 ** 50 + 3, -10 ** 50 - 3, MOST * MOST, LEAST * LEAST, LEAST * MOST):
            with self.subTest(number):
                fitted = fit(number)
                self.assertTrue(LEAST <= fitted <= MOST)
                self.assertEqual((fitted - number) % ROUND, 0)


class TestReckoned(unittest.TestCase):
    def expect(self, word, cases):
        for one, other, wanted in cases:
            with self.subTest((word, one, other)):
                told = reckoned(word, one, other)
                self.assertEqual(told, wanted)
                self.assertIs(is_number(told), True)

    def test_sum(self):
        self.expect("sum", [
            (2, 3, 5), (-2, 3, 1), (0, 0, 0), (LEAST, MOST, -1),
            (MOST, 1, LEAST), (LEAST, -1, MOST), (MOST, MOST, -2), (LEAST, LEAST, 0),
        ])

    def test_less(self):
        self.expect("less", [
            (5, 3, 2), (3, 5, -2), (0, 0, 0), (MOST, MOST, 0),
            (LEAST, 1, MOST), (MOST, -1, LEAST), (0, LEAST, LEAST), (MOST, LEAST, -1), (LEAST, MOST, 1),
        ])

    def test_times(self):
        self.expect("times", [
            (4, 5, 20), (-4, 5, -20), (-4, -5, 20), (0, LEAST, 0),
            (65536, 65536, 0), (65536, 32768, LEAST), (MOST, 2, -2), (MOST, MOST, 1),
            (LEAST, -1, LEAST), (LEAST, LEAST, 0), (LEAST, MOST, LEAST), (100000, 100000, 1410065408),
        ])

    def test_part_is_rounded_down_for_each_pairing_of_signs(self):
        self.expect("part", [
            (7, 2, 3), (-7, 2, -4), (7, -2, -4), (-7, -2, 3),
            (6, 2, 3), (-6, 2, -3), (6, -2, -3), (-6, -2, 3),
            (1, 3, 0), (-1, 3, -1), (1, -3, -1), (-1, -3, 0), (0, 5, 0), (0, -5, 0),
        ])

    def test_part_at_the_bounds(self):
        self.expect("part", [
            (LEAST, -1, LEAST), (LEAST, 1, LEAST), (MOST, -1, -MOST), (MOST, MOST, 1),
            (LEAST, LEAST, 1), (MOST, LEAST, -1), (LEAST, MOST, -2), (LEAST, 2, -1073741824),
        ])

    def test_part_is_exact_for_large_numbers(self):
        self.expect("part", [(MOST, 2, 1073741823), (2147483645, 7, 306783377), (-2147483645, 7, -306783378)])

    def test_part_by_nought_is_refused(self):
        for one in (LEAST, -1, 0, 1, MOST):
            with self.subTest(one):
                with self.assertRaises(ByNought):
                    reckoned("part", one, 0)

    def test_below(self):
        self.expect("below", [
            (1, 2, 1), (2, 1, 0), (2, 2, 0), (-1, 0, 1), (0, -1, 0), (LEAST, MOST, 1), (MOST, LEAST, 0),
        ])

    def test_alike(self):
        self.expect("alike", [(2, 2, 1), (1, 2, 0), (2, 1, 0), (0, 0, 1), (LEAST, LEAST, 1), (LEAST, MOST, 0)])

    def test_below_and_alike_tell_whole_numbers(self):
        for word in ("below", "alike"):
            for pair in ((1, 2), (2, 2), (2, 1)):
                with self.subTest((word, pair)):
                    self.assertIs(type(reckoned(word, *pair)), int)

    def test_nought_is_refused_for_part_alone(self):
        self.assertEqual([reckoned(word, 3, 0) for word in ("sum", "less", "times", "below", "alike")],
                         [3, 3, 0, 0, 0])


if __name__ == "__main__":
    unittest.main()
