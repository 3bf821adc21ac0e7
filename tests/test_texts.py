import unittest

import samples
from boxwright.build import last_of
from boxwright.errors import BadProgram, NoText
from boxwright.texts import spelt, spelt_last, unspelt

EACH_FORM = [("turn",), ("take", "one"), ("set", "two", 5), ("copy", "three", "one"),
             ("do", "four", "sum", "two", "three"), ("tell", "four"), ("if", "one", 0), ("go", 8), ("end",)]
EACH_TEXT = """turn
take one
set two 5
copy three one
do four sum two three
tell four
if one 0
go 8
end"""


class TestSpelt(unittest.TestCase):
    def expect(self, rows, text):
        self.assertEqual(spelt(rows), text)
        self.assertEqual(unspelt(text), rows)

    def test_each_form(self):
        self.expect(EACH_FORM, EACH_TEXT)

    def test_each_deed(self):
        for word in samples.WORDS:
            self.expect([("do", "a", word, "b", "c")], f"do a {word} b c")

    def test_without_rows(self):
        self.expect([], "")

    def test_numbers(self):
        for number, figures in ((0, "0"), (7, "7"), (10, "10"), (100, "100"), (1234567890, "1234567890"), (-1, "-1"),
                                (-10, "-10"), (2147483647, "2147483647"), (-2147483648, "-2147483648")):
            self.expect([("set", "a", number)], "set a " + figures)
            self.assertIs(type(unspelt("set a " + figures)[0][2]), int)

    def test_places_of_more_figures(self):
        self.expect([("turn",)] * 59 + [("go", 60)], "turn\n" * 59 + "go 60")
        self.expect([("turn",)] * 11 + [("if", "a", 10)], "turn\n" * 11 + "if a 10")

    def test_names_like_words(self):
        self.expect([("set", "set", 1), ("tell", "end"), ("do", "do", "sum", "sum", "go")],
                    "set set 1\ntell end\ndo do sum sum go")

    def test_many_programs(self):
        for rows in samples.programs(241, 300, 60):
            text = spelt(rows)
            self.assertIs(type(text), str)
            self.assertEqual(text.count("\n"), max(len(rows) - 1, 0))
            self.assertEqual(unspelt(text), rows)
            self.assertTrue(all(type(row) is tuple for row in unspelt(text)))

    def test_what_is_no_program_is_refused(self):
        for rows, at in ((None, None), ("", None), ((), None), ([("turn",)] * 61, None), ([("end",), ["end"]], 1),
                         ([("go", 0)], 0), ([("set", "a", True)], 0)):
            with self.subTest(repr(rows)):
                with self.assertRaises(BadProgram) as caught:
                    spelt(rows)
                self.assertEqual(caught.exception.at, at)

    def test_answers_are_new_and_nothing_is_changed(self):
        samples.check_answers(self, spelt, list(EACH_FORM))
        samples.check_answers(self, unspelt, EACH_TEXT)
        samples.check_answers(self, unspelt, "")


class TestUnspelt(unittest.TestCase):
    def refused(self, text):
        with self.subTest(repr(text)):
            with self.assertRaises(NoText):
                unspelt(text)

    def test_what_is_no_text(self):
        for thing in (None, 0, True, [], ["end"], [("end",)], ("end",), {}, b"end", b"", 1.5, set()):
            self.refused(thing)

    def test_blanks_tabs_and_line_feeds_too_many(self):
        for text in (" ", "  ", "\t", "\n", "\n\n", " end", "end ", "end\n", "\nend", "end\n\nend", "end\n ", "end \nend",
                     "set  a 1", "set a  1", "set a 1 ", " set a 1", "set\ta 1", "set a\t1", "set a 1\t", "\tset a 1",
                     "set a\n1", "set a 1\n", "turn\ngo 0\n", "\n" + EACH_TEXT, EACH_TEXT + "\n", EACH_TEXT + " ",
                     EACH_TEXT.replace("\n", "\n\n"), EACH_TEXT.replace("\n", " "), EACH_TEXT.replace(" ", "\t")):
            self.refused(text)

    def test_numbers_written_otherwise(self):
        for figures in ("00", "01", "007", "-0", "-00", "-01", "+1", "+0", "--1", "-", "+", "- 1", "1.0", "1e3", "0x1",
                        "1_000", "1,0", "1-", "", "a", "one", "2147483648", "-2147483649", "99999999999", "1" * 5000,
                        "0" * 5000, "-" + "9" * 5000):
            self.refused("set a " + figures)
        for figures in ("00", "01", "-0", "+1", "-1", "2", "a", "1.0", ""):
            self.refused("go " + figures)
            self.refused("if a " + figures)

    def test_words_and_names_that_are_none(self):
        for text in ("put a 1", "Set a 1", "SET a 1", "stop", "0", "-1", "set A 1", "set a1 1", "set 1 1", "set -1 1",
                     "tell 5", "tell abcdefg", "do a add b c", "do a 1 b c", "do a sum 1 c", "do a sum b", "set a",
                     "set a 1 1", "tell", "tell a b", "turn 0", "end end", "go", "copy a", "copy a 1", "take",
                     "('end',)", "end;end", "end,", "move 2 3", "pull 2 3"):
            self.refused(text)

    def test_rows_that_are_no_program(self):
        self.refused("go 0")
        self.refused("tell a\ngo 0")
        self.refused("go 2")
        self.refused("turn\n" * 60 + "turn")
        self.refused("\n".join("tell " + name for name in samples.NAMES + ["m"]))
        self.refused("\n".join(["end"] * 100000))

    def test_each_sign_put_in_makes_another_program_or_none(self):
        text = "turn\nset a -12\nif a 0"
        for spot in range(len(text) + 1):
            for sign in " \t\n" + "".join(chr(code) for code in range(33, 127)):
                other = text[:spot] + sign + text[spot:]
                try:
                    rows = unspelt(other)
                except NoText:
                    continue
                self.assertEqual(spelt(rows), other)


class TestSpeltLast(unittest.TestCase):
    def test_each_row(self):
        last = [("put", 2, -5), ("do", 3, "part", 2, 10), ("take", 0), ("tell", 1), ("turn",), ("move", 2, 3),
                ("pull", 4, 12), ("push", 0, 1), ("if", 2, 0), ("go", 10), ("end",)]
        self.assertEqual(spelt_last(last), "put 2 -5\ndo 3 part 2 10\ntake 0\ntell 1\nturn\nmove 2 3\npull 4 12\n"
                                           "push 0 1\nif 2 0\ngo 10\nend")

    def test_few_rows(self):
        self.assertEqual(spelt_last([]), "")
        self.assertEqual(spelt_last([("end",)]), "end")
        self.assertEqual(spelt_last(last_of([("set", "a", 7), ("tell", "a")], 3)), "put 2 7\ntell 2\nend")

    def test_nothing_is_changed(self):
        samples.check_answers(self, spelt_last, [("put", 2, -5), ("end",)])


if __name__ == "__main__":
    unittest.main()
