import random
import unittest

import samples
from boxwright.boxed import boxed
from boxwright.build import built, last_of
from boxwright.errors import BadBoxes, BadProgram
from boxwright.firstrun import first_run
from boxwright.laid import laid
from boxwright.lastrun import last_run
from boxwright.lean import lean
from boxwright.once import once
from boxwright.order import ordered
from boxwright.thread import threaded

ECHO = [("turn",), ("take", "x"), ("tell", "x"), ("if", "x", 0)]
NO_BOXES = (1, 10, 0, -2, 10 ** 30, True, False, None, "2", "", [2], (2,), {}, 2.0)
NO_PROGRAMS = ((None, None), ((), None), ([("turn",)] * 61, None), ([("end",), ["end"]], 1), ([("go", 0)], 0),
               ([("tell", name) for name in samples.NAMES + ["m"]], 12))

# Twelve names that all live round a ring, with deeds of each word.
FULL = ([("take", name) for name in samples.NAMES] + [("turn",)]
        + [("do", samples.NAMES[at], samples.WORDS[at % 6], samples.NAMES[at - 1], samples.NAMES[at - 5])
           for at in range(12)]
        + [("copy", "a", "b"), ("copy", "b", "c"), ("copy", "c", "a")]
        + [("tell", name) for name in samples.NAMES] + [("if", "d", 12)])


class TestBuilt(unittest.TestCase):
    def check_forms(self, rows, boxes):
        told = built(rows, boxes)
        self.assertIs(type(told), tuple)
        self.assertEqual(len(told), 5)
        self.assertEqual(told[0], once(rows)[0])
        self.assertEqual(told[1], lean(told[0]))
        self.assertEqual(told[2], boxed(told[1], boxes))
        self.assertEqual(told[3], [(ordered(block_rows), end) for block_rows, end in told[2]])
        self.assertEqual(told[4], laid(threaded(told[3])))
        self.assertEqual(last_of(rows, boxes), told[4])

    def test_a_small_program(self):
        self.assertEqual(built(ECHO, 3), (
            [([], [("set", 0, 0)], ("go", 1, (0,))), ([1], [("turn",), ("take", 2), ("tell", 2)], ("if", 2, 3, 2)),
             ([], [], ("end",)), ([], [], ("go", 1, (2,)))],
            [([], [], ("go", 1, ())), ([], [("turn",), ("take", 2), ("tell", 2)], ("if", 2, 3, 2)),
             ([], [], ("end",)), ([], [], ("go", 1, ()))],
            [([], ("go", 1)), ([("turn",), ("take", 2), ("tell", 2)], ("if", 2, 3, 2)), ([], ("end",)),
             ([], ("go", 1))],
            [([], ("go", 1)), ([("turn",), ("take", 2), ("tell", 2)], ("if", 2, 3, 2)), ([], ("end",)),
             ([], ("go", 1))],
            [("turn",), ("take", 2), ("tell", 2), ("if", 2, 0), ("end",)]))

    def test_without_rows(self):
        self.assertEqual(built([], 2), ([([], [("set", 0, 0)], ("go", 1, ())), ([], [], ("end",))],
                                        [([], [], ("go", 1, ())), ([], [], ("end",))],
                                        [([], ("go", 1)), ([], ("end",))], [([], ("go", 1)), ([], ("end",))],
                                        [("end",)]))

    def test_the_forms_of_many_programs(self):
        for rows in samples.programs(231, 60) + samples.programs(232, 12, 60) + [FULL]:
            for boxes in range(2, 10):
                self.check_forms(rows, boxes)

    def test_rows_are_ordered_ahead_of_threading(self):
        # Ordered behind threading, rows of blocks that stand in others could change places over the seam.
        rows = [("take", "a"), ("go", 3), ("end",), ("tell", "a"), ("set", "b", 7), ("tell", "b")]
        for boxes in range(2, 10):
            self.check_forms(rows, boxes)

    def test_answers_are_new_and_nothing_is_changed(self):
        for rows in [[], FULL] + samples.programs(233, 25, 40):
            for boxes in (2, 4, 9):
                samples.check_answers(self, built, rows, boxes)
                samples.check_answers(self, last_of, rows, boxes)


class TestRefusals(unittest.TestCase):
    def test_boxes(self):
        for function in (built, last_of):
            for boxes in NO_BOXES:
                for rows in ([], ECHO):
                    with self.subTest(repr((function, rows, boxes))):
                        with self.assertRaises(BadBoxes):
                            function(rows, boxes)

    def test_boxes_at_the_bounds(self):
        for boxes in (2, 9):
            self.assertEqual(first_run(ECHO, [4], 9), last_run(last_of(ECHO, boxes), [4], 9))

    def test_what_is_no_program_comes_first(self):
        for function in (built, last_of):
            for rows, at in NO_PROGRAMS:
                for boxes in NO_BOXES + (2, 9):
                    with self.subTest(repr((function, rows, boxes))):
                        with self.assertRaises(BadProgram) as caught:
                            function(rows, boxes)
                        self.assertEqual(caught.exception.at, at)


class TestTheVeryOutcome(unittest.TestCase):
    def check(self, rows, rng, runs):
        words = set()
        for boxes in range(2, 10):
            last = last_of(rows, boxes)
            for run in range(runs):
                inputs, turns = samples.random_inputs(rng), rng.choice((0, 1, 2, 3, 5, 9, 30))
                wanted = first_run(rows, inputs, turns)
                self.assertEqual(last_run(last, inputs, turns), wanted, (rows, boxes, inputs, turns))
                words.add(wanted[0])
        return words

    def test_many_programs(self):
        rng = random.Random(234)
        words = set()
        for rows in samples.programs(235, 250) + samples.programs(236, 120, 60):
            words |= self.check(rows, rng, 2)
        self.assertEqual(words, {"done", "nought", "dry"})

    def test_a_full_program(self):
        self.check(FULL, random.Random(237), 20)

    def test_a_program_of_sixty_rows_with_rings_in_rings(self):
        rows = [("take", "a"), ("turn",), ("take", "b"), ("turn",)]
        while len(rows) < 54:
            at = len(rows)
            rows.append([("do", "c", "sum", "a", "b"), ("do", "d", "times", "c", "a"), ("copy", "e", "d"),
                         ("do", "f", "part", "e", "b"), ("tell", "f"), ("do", "a", "less", "a", "c"),
                         ("if", "c", 3), ("do", "b", "below", "d", "f"), ("take", "g"), ("if", "g", at + 2)][at % 10])
        rows += [("if", "b", 3), ("tell", "a"), ("if", "a", 1), ("tell", "d"), ("tell", "e"), ("go", 60)]
        self.assertEqual(len(rows), 60)
        self.check(rows, random.Random(238), 20)


if __name__ == "__main__":
    unittest.main()
