import random
import unittest

import samples
from boxwright.beats import beats

WAITS = {"put": 1, "move": 1, "tell": 1, "turn": 1, "push": 1, "take": 2, "pull": 3}
DO_WAITS = {"times": 3, "part": 5}


def plain_beats(rows):
    """The words of [18], with the beats from the first one on."""
    ready, begins, ends = {}, [], []
    for row in rows:
        word, parts = row[0], row[1:]
        reads = {"do": [("box", part) for part in parts[2:]], "tell": [("box", part) for part in parts],
                 "move": [("box", part) for part in parts[1:]], "push": [("box", part) for part in parts[1:]],
                 "pull": [("slot", part) for part in parts[1:]]}.get(word, [])
        writes = {"tell": [], "turn": [], "push": [("slot", part) for part in parts[:1]]}.get(
            word, [("box", part) for part in parts[:1]])
        wait = DO_WAITS.get(row[2], 1) if word == "do" else WAITS[word]
        begin = begins[-1] + 1 if begins else 0
        while any(ready.get(thing, 0) > begin for thing in reads + writes):
            begin += 1
        begins.append(begin)
        ends.append(begin + wait)
        ready.update({thing: begin + wait for thing in writes})
    return max(ends, default=0)


class TestBeats(unittest.TestCase):
    def expect(self, *cases):
        for rows, wanted in cases:
            with self.subTest(rows):
                self.assertEqual(beats(rows), wanted)
                self.assertEqual(plain_beats(rows), wanted)

    def test_no_rows(self):
        self.expect(([], 0))

    def test_one_row_of_each_kind(self):
        self.expect(([("put", 2, 5)], 1), ([("move", 2, 3)], 1), ([("tell", 2)], 1), ([("turn",)], 1),
                    ([("push", 0, 2)], 1), ([("take", 2)], 2), ([("pull", 2, 0)], 3), ([("do", 2, "sum", 3, 4)], 1),
                    ([("do", 2, "less", 3, 4)], 1), ([("do", 2, "times", 3, 4)], 3), ([("do", 2, "part", 3, 4)], 5),
                    ([("do", 2, "below", 3, 4)], 1), ([("do", 2, "alike", 3, 4)], 1))

    def test_each_next_row_at_the_next_beat(self):
        self.expect(([("turn",)] * 7, 7), ([("put", 2, 5), ("put", 3, 5), ("tell", 4)], 3),
                    ([("put", 2, 5), ("tell", 2), ("push", 1, 2)], 3))

    def test_a_row_that_reads_what_is_not_ready(self):
        for first, wait in ((("take", 2), 2), (("pull", 2, 0), 3), (("do", 2, "times", 3, 3), 3),
                            (("do", 2, "part", 3, 3), 5)):
            for reader in (("tell", 2), ("move", 4, 2), ("push", 1, 2), ("do", 4, "sum", 2, 3), ("do", 4, "sum", 3, 2)):
                self.expect(([first, reader], wait + 1))
                self.expect(([first, ("turn",), reader], max(2, wait) + 1))
        self.expect(([("push", 1, 2), ("pull", 3, 1)], 4))

    def test_a_row_that_writes_what_is_not_ready(self):
        for first, wait in ((("take", 2), 2), (("pull", 2, 0), 3), (("do", 2, "times", 3, 3), 3),
                            (("do", 2, "part", 3, 3), 5)):
            for writer, more in ((("put", 2, 1), 1), (("move", 2, 4), 1), (("take", 2), 2), (("pull", 2, 1), 3),
                                 (("do", 2, "sum", 3, 3), 1)):
                self.expect(([first, writer], wait + more))

    def test_a_row_that_touches_something_else_does_not_wait(self):
        self.expect(([("do", 2, "part", 3, 3), ("put", 4, 1)], 5), ([("pull", 2, 0), ("tell", 3)], 3),
                    ([("do", 2, "part", 3, 4), ("put", 3, 1), ("put", 4, 1)], 5))

    def test_a_box_and_a_slot_of_one_number_are_two_things(self):
        self.expect(([("pull", 2, 7), ("push", 2, 3)], 3), ([("do", 2, "part", 3, 3), ("pull", 4, 2)], 5),
                    ([("do", 2, "part", 3, 3), ("pull", 2, 2)], 8), ([("take", 5), ("push", 5, 3)], 2))

    def test_rows_that_read_and_write_one_box(self):
        self.expect(([("do", 2, "times", 2, 2), ("do", 2, "times", 2, 2)], 6), ([("move", 2, 2), ("move", 2, 2)], 2))

    def test_the_greatest_is_not_always_the_last(self):
        self.expect(([("do", 2, "part", 3, 3), ("turn",), ("turn",)], 5),
                    ([("do", 2, "part", 3, 3)] + [("turn",)] * 6, 7),
                    ([("put", 5, 1), ("do", 2, "part", 3, 3), ("take", 4)], 6))

    def test_against_the_words(self):
        rng = random.Random(181)
        for index in range(1500):
            rows = samples.random_box_rows(rng, 25, rng.randint(2, 9), rng.randint(1, 6))
            self.assertEqual(beats(rows), plain_beats(rows), rows)
        rows = samples.random_box_rows(rng, 3000)
        self.assertEqual(beats(rows), plain_beats(rows))

    def test_nothing_is_changed(self):
        samples.check_answers(self, beats, [("take", 2), ("tell", 2)])
        samples.check_answers(self, beats, [])


if __name__ == "__main__":
    unittest.main()
