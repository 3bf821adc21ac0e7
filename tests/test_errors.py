import unittest

from boxwright.errors import BadBoxes, BadProgram, BadRun, BoxError, ByNought, NoText

FIVE = (BadProgram, BadRun, ByNought, BadBoxes, NoText)


class TestErrors(unittest.TestCase):
    def test_box_error_stands_under_value_error(self):
        self.assertTrue(issubclass(BoxError, ValueError))

    def test_each_stands_under_box_error(self):
        for one in FIVE:
            with self.subTest(one.__name__):
                self.assertTrue(issubclass(one, BoxError))
                self.assertTrue(issubclass(one, ValueError))
                self.assertIsNot(one, BoxError)

    def test_none_stands_under_another(self):
        for one in FIVE:
            for other in FIVE:
                if one is not other:
                    with self.subTest(f"{one.__name__} {other.__name__}"):
                        self.assertFalse(issubclass(one, other))

    def test_they_are_five(self):
        self.assertEqual(len(set(FIVE)), 5)

    def test_each_can_be_raised_and_taken_as_a_value_error(self):
        for one in FIVE:
            with self.subTest(one.__name__):
                with self.assertRaises(ValueError):
                    raise one("words")

    def test_at_is_set_when_made(self):
        self.assertIsNone(BadProgram(None).at)
        self.assertEqual(BadProgram(0).at, 0)
        self.assertEqual(BadProgram(59).at, 59)

    def test_at_is_kept_by_each_object(self):
        first = BadProgram(1)
        second = BadProgram(2)
        self.assertEqual((first.at, second.at), (1, 2))


if __name__ == "__main__":
    unittest.main()
