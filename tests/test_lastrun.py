import unittest

import samples
from boxwright.errors import BadRun
from boxwright.lastrun import last_run

LEAST = -2147483648
MOST = 2147483647
END = ("end",)
LOOP = [("turn",), ("take", 2), ("tell", 2), ("if", 2, 0), END]


class TestRows(unittest.TestCase):
    def told(self, rows, inputs=(), turns=0):
        return last_run(rows, list(inputs), turns)

    def test_put_and_tell(self):
        self.assertEqual(self.told([("put", 8, LEAST), ("tell", 8), ("put", 8, MOST), ("tell", 8), END]),
                         ("done", [LEAST, MOST], 0))

    def test_boxes_and_slots_hold_nought_at_first(self):
        rows = [("tell", 0), ("tell", 8), ("put", 2, 5), ("pull", 2, 40), ("tell", 2), ("put", 3, 6), ("move", 3, 7),
                ("tell", 3), ("do", 4, "alike", 5, 6), ("tell", 4), ("if", 1, 11), END, ("tell", 4)]
        self.assertEqual(self.told(rows), ("done", [0, 0, 0, 0, 1], 0))

    def test_do_with_each_word_and_its_things_in_order(self):
        for word, wanted in (("sum", 9), ("less", 5), ("times", 14), ("part", 3), ("below", 0), ("alike", 0)):
            rows = [("put", 2, 7), ("put", 3, 2), ("do", 4, word, 2, 3), ("tell", 4), ("tell", 2), ("tell", 3), END]
            self.assertEqual(self.told(rows), ("done", [wanted, 7, 2], 0))

    def test_rows_that_read_and_write_one_box(self):
        rows = [("put", 2, 7), ("do", 2, "sum", 2, 2), ("tell", 2), ("do", 2, "less", 3, 2), ("tell", 2),
                ("move", 2, 2), ("tell", 2), END]
        self.assertEqual(self.told(rows), ("done", [14, -14, -14], 0))

    def test_move_pull_and_push(self):
        rows = [("put", 2, 7), ("move", 3, 2), ("put", 2, 8), ("tell", 3), ("push", 2, 3), ("push", 3, 2),
                ("put", 3, 1), ("pull", 4, 2), ("pull", 5, 3), ("tell", 4), ("tell", 5), ("tell", 3), ("tell", 2), END]
        self.assertEqual(self.told(rows), ("done", [7, 7, 8, 1, 8], 0))

    def test_a_box_and_a_slot_of_one_number(self):
        rows = [("put", 2, 7), ("push", 2, 2), ("put", 2, 8), ("tell", 2), ("pull", 2, 2), ("tell", 2), END]
        self.assertEqual(self.told(rows), ("done", [8, 7], 0))

    def test_take_and_inputs_behind_the_last(self):
        rows = [("take", 2), ("tell", 2), ("take", 2), ("tell", 2), ("put", 2, 4), ("take", 2), ("tell", 2), END]
        self.assertEqual(self.told(rows, [5, LEAST]), ("done", [5, LEAST, 0], 3))
        self.assertEqual(self.told(rows), ("done", [0, 0, 0], 3))
        self.assertEqual(self.told([("take", 2), END], [5, 6]), ("done", [], 1))

    def test_if_and_go(self):
        rows = [("take", 2), ("if", 2, 4), ("tell", 3), ("go", 5), ("tell", 2), END]
        for number, told in ((0, [0]), (1, [1]), (-1, [-1]), (LEAST, [LEAST])):
            self.assertEqual(self.told(rows, [number]), ("done", told, 1))

    def test_turns(self):
        self.assertEqual(self.told([("turn",), END]), ("dry", [], 0))
        self.assertEqual(self.told([("turn",), END], (), 1), ("done", [], 0))
        for turns in range(6):
            wanted = ("dry", [1] * turns, turns) if turns < 4 else ("done", [1, 1, 1, 0], 4)
            self.assertEqual(self.told(LOOP, [1, 1, 1], turns), wanted)
        self.assertEqual(self.told(LOOP, [1] * 10000, 10000), ("dry", [1] * 10000, 10000))

    def test_part_by_nought(self):
        rows = [("take", 2), ("tell", 2), ("do", 3, "part", 2, 4), ("tell", 2), END]
        self.assertEqual(self.told(rows, [3]), ("nought", [3], 1))

    def test_end(self):
        self.assertEqual(self.told([END]), ("done", [], 0))
        self.assertEqual(self.told([("tell", 2), END, ("tell", 2)]), ("done", [0], 0))

    def test_nothing_is_kept_between_runs(self):
        self.assertEqual(self.told([("put", 2, 7), ("push", 0, 2), END]), ("done", [], 0))
        self.assertEqual(self.told([("tell", 2), ("pull", 3, 0), ("tell", 3), END]), ("done", [0, 0], 0))

    def test_answers_are_new_and_nothing_is_changed(self):
        samples.check_answers(self, last_run, LOOP, [3, 2, 1], 5)
        samples.check_answers(self, last_run, [END], [], 0)


class TestRefusals(unittest.TestCase):
    def refused(self, inputs, turns):
        with self.subTest(repr((inputs, turns))):
            with self.assertRaises(BadRun):
                last_run(LOOP, inputs, turns)

    def test_inputs_that_are_no_list_of_numbers(self):
        for thing in (None, 0, True, "", "12", (), (1,), {}, set()):
            self.refused(thing, 0)
        for thing in (True, False, None, "1", 1.0, [1], (1,), MOST + 1, LEAST - 1):
            self.refused([thing], 0)
            self.refused([1, 2, thing], 0)

    def test_turns_that_are_none(self):
        for thing in (-1, 10001, True, False, None, "1", 1.0, [1], (1,), {}):
            self.refused([], thing)


if __name__ == "__main__":
    unittest.main()
