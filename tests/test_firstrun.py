import random
import unittest

import samples
from boxwright.deeds import reckoned
from boxwright.errors import BadProgram, BadRun
from boxwright.firstrun import first_run

LEAST = -2147483648
MOST = 2147483647

LOOP = [("turn",), ("take", "a"), ("tell", "a"), ("if", "a", 0)]


def plain_run(rows, inputs, turns):
    """The words of [5], by a walk of its own."""
    holds, told, takes, made, at = {}, [], 0, 0, 0
    while at < len(rows):
        word, parts = rows[at][0], rows[at][1:]
        at += 1
        if word == "end":
            break
        if word == "set":
            holds[parts[0]] = parts[1]
        if word == "copy":
            holds[parts[0]] = holds.get(parts[1], 0)
        if word == "do":
            one, other = holds.get(parts[2], 0), holds.get(parts[3], 0)
            if parts[1] == "part" and other == 0:
                return ("nought", told, takes)
            holds[parts[0]] = reckoned(parts[1], one, other)
        if word == "take":
            holds[parts[0]] = (inputs + [0] * (takes + 1))[takes]
            takes += 1
        if word == "tell":
            told.append(holds.get(parts[0], 0))
        if word == "turn":
            if made == turns:
                return ("dry", told, takes)
            made += 1
        if word == "go" or word == "if" and holds.get(parts[0], 0) != 0:
            at = parts[-1]
    return ("done", told, takes)


class TestRows(unittest.TestCase):
    def test_set_and_tell(self):
        self.assertEqual(first_run([("set", "a", LEAST), ("tell", "a"), ("set", "a", MOST), ("tell", "a")], [], 0),
                         ("done", [LEAST, MOST], 0))

    def test_copy_holds_what_the_other_held(self):
        rows = [("set", "a", 5), ("copy", "b", "a"), ("set", "a", 6), ("tell", "b"), ("tell", "a"), ("copy", "a", "b"),
                ("tell", "a"), ("copy", "c", "c"), ("tell", "c")]
        self.assertEqual(first_run(rows, [], 0), ("done", [5, 6, 5, 0], 0))

    def test_do_with_each_word_and_its_things_in_order(self):
        for word, wanted in (("sum", 9), ("less", 5), ("times", 14), ("part", 3), ("below", 0), ("alike", 0)):
            with self.subTest(word):
                rows = [("set", "a", 7), ("set", "b", 2), ("do", "c", word, "a", "b"), ("tell", "c"), ("tell", "a"),
                        ("tell", "b")]
                self.assertEqual(first_run(rows, [], 0), ("done", [wanted, 7, 2], 0))

    def test_do_into_one_of_its_own_things(self):
        rows = [("set", "a", 7), ("do", "a", "sum", "a", "a"), ("tell", "a"), ("do", "a", "less", "b", "a"),
                ("tell", "a")]
        self.assertEqual(first_run(rows, [], 0), ("done", [14, -14], 0))

    def test_take(self):
        rows = [("take", "a"), ("take", "b"), ("tell", "b"), ("tell", "a"), ("take", "a"), ("tell", "a")]
        self.assertEqual(first_run(rows, [LEAST, MOST, 3], 0), ("done", [MOST, LEAST, 3], 3))

    def test_inputs_behind_the_last_are_nought_and_count(self):
        rows = [("set", "a", 9), ("take", "a"), ("tell", "a"), ("take", "a"), ("tell", "a"), ("take", "a"),
                ("tell", "a")]
        self.assertEqual(first_run(rows, [4], 0), ("done", [4, 0, 0], 3))
        self.assertEqual(first_run(rows, [], 0), ("done", [0, 0, 0], 3))
        self.assertEqual(first_run([("take", "a"), ("tell", "a")], [4, 5, 6], 0), ("done", [4], 1))

    def test_names_hold_nought_at_first(self):
        rows = [("tell", "a"), ("copy", "b", "c"), ("tell", "b"), ("do", "d", "alike", "e", "f"), ("tell", "d"),
                ("if", "g", 7), ("tell", "h")]
        self.assertEqual(first_run(rows, [], 0), ("done", [0, 0, 1, 0], 0))

    def test_if_goes_where_no_nought_is_held(self):
        rows = [("take", "a"), ("if", "a", 3), ("tell", "b"), ("tell", "a")]
        for number, told in ((0, [0, 0]), (1, [1]), (-1, [-1]), (LEAST, [LEAST]), (MOST, [MOST])):
            with self.subTest(number):
                self.assertEqual(first_run(rows, [number], 0), ("done", told, 1))

    def test_go_forward_and_back(self):
        rows = [("go", 3), ("turn",), ("end",), ("set", "a", 1), ("tell", "a"), ("go", 1)]
        self.assertEqual(first_run(rows, [], 1), ("done", [1], 0))

    def test_end_and_the_end_that_is_not_written(self):
        self.assertEqual(first_run([("tell", "a"), ("end",), ("tell", "a")], [], 0), ("done", [0], 0))
        self.assertEqual(first_run([("tell", "a"), ("tell", "a")], [], 0), ("done", [0, 0], 0))
        self.assertEqual(first_run([("go", 2), ("tell", "a")], [], 0), ("done", [], 0))
        self.assertEqual(first_run([("set", "a", 1), ("if", "a", 3), ("tell", "a")], [], 0), ("done", [], 0))

    def test_without_rows(self):
        self.assertEqual(first_run([], [], 0), ("done", [], 0))
        self.assertEqual(first_run([], [1, 2], 10000), ("done", [], 0))


class TestStops(unittest.TestCase):
    def test_a_turn_where_none_is_left(self):
        self.assertEqual(first_run([("turn",)], [], 0), ("dry", [], 0))
        self.assertEqual(first_run([("turn",)], [], 1), ("done", [], 0))
        self.assertEqual(first_run([("turn",), ("turn",)], [], 1), ("dry", [], 0))
        self.assertEqual(first_run([("turn",), ("turn",)], [], 2), ("done", [], 0))

    def test_turns_round_a_ring(self):
        for turns in range(6):
            with self.subTest(turns):
                wanted = ("dry", [1] * turns, turns) if turns < 4 else ("done", [1, 1, 1, 0], 4)
                self.assertEqual(first_run(LOOP, [1, 1, 1], turns), wanted)

    def test_most_turns(self):
        rows = [("turn",), ("take", "a"), ("go", 0)]
        self.assertEqual(first_run(rows, [], 10000), ("dry", [], 10000))

    def test_what_was_told_and_taken_up_to_a_stop(self):
        rows = [("take", "a"), ("tell", "a"), ("do", "b", "part", "a", "c"), ("tell", "a"), ("take", "a")]
        self.assertEqual(first_run(rows, [8, 9], 0), ("nought", [8], 1))
        rows[2] = ("turn",)
        self.assertEqual(first_run(rows, [8, 9], 0), ("dry", [8], 1))
        rows[2] = ("end",)
        self.assertEqual(first_run(rows, [8, 9], 0), ("done", [8], 1))

    def test_part_by_nought(self):
        self.assertEqual(first_run([("do", "a", "part", "b", "c")], [], 0), ("nought", [], 0))
        self.assertEqual(first_run([("turn",), ("do", "a", "part", "b", "c")], [], 0), ("dry", [], 0))
        self.assertEqual(first_run([("set", "c", 2), ("do", "a", "part", "c", "c"), ("tell", "a")], [], 0),
                         ("done", [1], 0))

    def test_the_outcome_is_a_tuple_with_a_list(self):
        told = first_run(LOOP, [], 3)
        self.assertIs(type(told), tuple)
        self.assertEqual([type(part) for part in told], [str, list, int])

    def test_many_runs_against_a_plain_one(self):
        rng = random.Random(5)
        words = set()
        for rows in samples.programs(51, 600):
            inputs, turns = samples.random_inputs(rng), rng.randint(0, 9)
            told = first_run(rows, inputs, turns)
            self.assertEqual(told, plain_run(rows, inputs, turns), (rows, inputs, turns))
            words.add(told[0])
        self.assertEqual(words, {"done", "nought", "dry"})

    def test_answers_are_new_and_nothing_is_changed(self):
        samples.check_answers(self, first_run, LOOP, [3, 2, 1], 5)
        samples.check_answers(self, first_run, [], [], 0)


class TestRefusals(unittest.TestCase):
    def refused(self, rows, inputs, turns):
        with self.subTest(repr((rows, inputs, turns))):
            with self.assertRaises(BadRun):
                first_run(rows, inputs, turns)

    def test_inputs_that_are_no_list_of_numbers(self):
        for thing in (None, 0, True, "", "12", (), (1,), {}, {0: 1}, set(), b"1", iter([1])):
            self.refused([], thing, 0)
        for thing in (True, False, None, "1", "", 1.0, [1], (1,), MOST + 1, LEAST - 1, 10 ** 40):
            self.refused([("take", "a")], [thing], 0)
            self.refused(LOOP, [1, 2, thing], 3)
            self.refused(LOOP, [thing, 1, 2], 3)

    def test_turns_that_are_none(self):
        for thing in (-1, 10001, MOST, LEAST, 10 ** 40, True, False, None, "1", "", 1.0, [1], (1,), {}):
            self.refused([], [], thing)
            self.refused(LOOP, [1], thing)

    def test_turns_at_the_bounds(self):
        self.assertEqual(first_run(LOOP, [], 0), ("dry", [], 0))
        self.assertEqual(first_run(LOOP, [], 10000), ("done", [0], 1))

    def test_what_is_no_program_comes_first(self):
        for rows, at in ((None, None), ([("turn",)] * 61, None), ((), None), ([None], 0), ([("turn",), ("go", 5)], 1),
                         ([("tell", "a"), ("go", 0)], 1), ([("tell", name) for name in samples.NAMES + ["m"]], 12)):
            for inputs, turns in (([], 0), (None, 0), ([], None), ([True], -1)):
                with self.subTest(repr((rows, inputs, turns))):
                    with self.assertRaises(BadProgram) as caught:
                        first_run(rows, inputs, turns)
                    self.assertEqual(caught.exception.at, at)


if __name__ == "__main__":
    unittest.main()
