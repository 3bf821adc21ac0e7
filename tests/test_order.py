import itertools
import random
import unittest

import samples
from boxwright.beats import beats
from boxwright.boxed import boxed
from boxwright.once import once
from boxwright.order import bound, ordered

EACH = [("put", 2, 7), ("do", 2, "sum", 3, 4), ("take", 3), ("tell", 2), ("turn",), ("move", 2, 4), ("pull", 2, 3),
        ("push", 3, 2), ("do", 5, "part", 6, 7)]


def reads(row):
    return {"do": {("box", row[-2]), ("box", row[-1])} if row[0] == "do" else (), "tell": {("box", row[-1])},
            "move": {("box", row[-1])}, "push": {("box", row[-1])}, "pull": {("slot", row[-1])}}.get(row[0], set())


def writes(row):
    if row[0] in ("tell", "turn"):
        return set()
    return {("slot" if row[0] == "push" else "box", row[1])}


def plain_bound(one, other):
    outward = [row[0] in ("take", "tell", "turn") or "part" in row for row in (one, other)]
    return (all(outward) or bool(writes(one) & (reads(other) | writes(other)))
            or bool(writes(other) & (reads(one) | writes(one))))


def numbered(rows):
    """Each row with how many like it stand ahead: rows that are alike are bound, so they stay in order."""
    return [(row, rows[:place].count(row)) for place, row in enumerate(rows)]


class TestBound(unittest.TestCase):
    def expect_pair(self, one, other, wanted):
        with self.subTest((one, other)):
            self.assertEqual(bound([one, other]), [(0, 1)] if wanted else [])
            self.assertEqual(bound([other, one]), [(0, 1)] if wanted else [])

    def test_none(self):
        self.assertEqual(bound([]), [])
        self.assertEqual(bound([("turn",)]), [])

    def test_take_tell_turn_and_part(self):
        outward = [("take", 2), ("tell", 3), ("turn",), ("do", 4, "part", 5, 6)]
        for one, other in itertools.combinations_with_replacement(outward, 2):
            self.expect_pair(one, other, True)
        for one in outward:
            for word in ("sum", "less", "times", "below", "alike"):
                self.expect_pair(one, ("do", 7, word, 8, 8), False)
            for other in (("put", 7, 1), ("move", 7, 8), ("pull", 7, 2), ("push", 2, 8)):
                self.expect_pair(one, other, False)

    def test_one_writes_what_the_other_reads(self):
        for writer in (("put", 2, 1), ("move", 2, 9), ("pull", 2, 9), ("do", 2, "sum", 9, 9)):
            for reader in (("tell", 2), ("move", 3, 2), ("push", 5, 2), ("do", 3, "sum", 2, 4),
                           ("do", 3, "sum", 4, 2)):
                self.expect_pair(writer, reader, True)
        self.expect_pair(("push", 5, 2), ("pull", 3, 5), True)

    def test_both_write_one_thing(self):
        writers = [("put", 2, 1), ("move", 2, 9), ("pull", 2, 9), ("do", 2, "sum", 9, 9), ("take", 2)]
        for one, other in itertools.combinations_with_replacement(writers, 2):
            self.expect_pair(one, other, True)
        self.expect_pair(("push", 5, 2), ("push", 5, 3), True)

    def test_shared_reads_alone(self):
        readers = [("tell", 2), ("move", 3, 2), ("push", 5, 2), ("do", 4, "sum", 2, 2)]
        for one, other in itertools.combinations(readers, 2):
            self.expect_pair(one, other, False)
        self.expect_pair(("pull", 2, 5), ("pull", 3, 5), False)

    def test_a_box_and_a_slot_of_one_number(self):
        self.expect_pair(("push", 2, 3), ("put", 2, 1), False)
        self.expect_pair(("push", 2, 3), ("tell", 2), False)
        self.expect_pair(("put", 2, 1), ("pull", 3, 2), False)

    def test_rising_pairs(self):
        rows = [("put", 2, 1), ("tell", 2), ("put", 3, 1), ("tell", 3), ("put", 2, 2)]
        self.assertEqual(bound(rows), [(0, 1), (0, 4), (1, 3), (1, 4), (2, 3)])

    def test_against_the_words(self):
        rng = random.Random(191)
        for index in range(400):
            rows = samples.random_box_rows(rng, 20, rng.randint(2, 9), rng.randint(1, 6))
            wanted = [(i, j) for i in range(len(rows)) for j in range(i + 1, len(rows)) if plain_bound(rows[i], rows[j])]
            self.assertEqual(bound(rows), wanted, rows)


class TestOrdered(unittest.TestCase):
    def check(self, rows):
        told = ordered(rows)
        self.assertIs(type(told), list)
        places = {row: place for place, row in enumerate(numbered(told))}
        self.assertEqual(sorted(map(repr, told)), sorted(map(repr, rows)))
        before = numbered(rows)
        for i, j in bound(rows):
            self.assertLess(places[before[i]], places[before[j]])
        most = beats(told)
        self.assertLessEqual(most, beats(rows))
        for place in range(len(told) - 1):
            if not plain_bound(told[place], told[place + 1]):
                other = told[:place] + [told[place + 1], told[place]] + told[place + 2:]
                self.assertGreaterEqual(beats(other), most)

    def test_none_and_one(self):
        self.assertEqual(ordered([]), [])
        self.assertEqual(ordered([("take", 2)]), [("take", 2)])

    def test_an_exchange_that_has_fewer_is_made(self):
        self.assertEqual(ordered([("take", 2), ("tell", 2), ("put", 3, 1)]), [("take", 2), ("put", 3, 1), ("tell", 2)])
        self.assertEqual(ordered([("put", 3, 1), ("do", 4, "part", 5, 5)]), [("do", 4, "part", 5, 5), ("put", 3, 1)])

    def test_several_exchanges(self):
        rows = [("pull", 2, 0), ("tell", 2), ("put", 3, 1), ("put", 4, 1)]
        self.assertEqual(beats(ordered(rows)), 4)
        rows = [("put", 3, 1), ("put", 4, 1), ("put", 6, 1), ("do", 2, "part", 5, 5)]
        self.assertEqual(ordered(rows)[0], ("do", 2, "part", 5, 5))

    def test_bound_rows_stay_in_order(self):
        rows = [("take", 2), ("tell", 2), ("turn",), ("take", 2), ("tell", 2), ("do", 2, "part", 2, 2), ("tell", 2)]
        self.assertEqual(ordered(rows), rows)

    def test_a_row_that_stands_twice(self):
        self.check([("pull", 2, 0), ("tell", 2), ("put", 3, 1), ("pull", 2, 0), ("tell", 2), ("put", 3, 1)])
        self.check([("turn",), ("pull", 2, 0), ("turn",), ("tell", 2), ("turn",)])

    def test_every_order_of_few_rows(self):
        for rows in itertools.permutations(EACH, 3):
            self.check(list(rows))

    def test_many_lists_of_rows(self):
        rng = random.Random(192)
        for index in range(700):
            self.check(samples.random_box_rows(rng, 16, rng.randint(2, 9), rng.randint(1, 6)))

    def test_long_lists_of_rows(self):
        rng = random.Random(193)
        for most in (60, 120, 240):
            rows = [samples.random_box_row(rng) for index in range(most)]
            self.check(rows)
        rows = []
        for index in range(40):
            rows += [("pull", 2 + index % 7, index % 9), ("do", 2 + index % 7, "times", 2 + index % 7, 2 + index % 7),
                     ("push", 20 + index, 2 + index % 7)]
        self.check(rows)
        self.assertLess(beats(ordered(rows)), beats(rows))

    def test_very_long_lists_are_told_soon(self):
        rng = random.Random(194)
        rows = [samples.random_box_row(rng) for index in range(2000)]
        self.assertLess(beats(ordered(rows)), beats(rows))

    def test_rows_of_boxed_graphs(self):
        for program in samples.programs(195, 30, 60):
            for boxes in (2, 3, 5, 9):
                for rows, end in boxed(once(program)[0], boxes):
                    self.check(rows)

    def test_answers_are_new_and_nothing_is_changed(self):
        rng = random.Random(196)
        for rows in [[], [("turn",)]] + [samples.random_box_rows(rng, 12) for index in range(40)]:
            samples.check_answers(self, ordered, rows)
            samples.check_answers(self, bound, rows)


if __name__ == "__main__":
    unittest.main()
