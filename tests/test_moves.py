import itertools
import random
import unittest

import samples
from boxwright.moves import in_turn

A, B, C, D = ("box", 2), ("box", 3), ("box", 4), ("box", 8)
S, T, U, V = ("slot", 0), ("slot", 1), ("slot", 2), ("slot", 8)


class TestInTurn(unittest.TestCase):
    def check(self, pairs):
        samples.check_moves(self, pairs, in_turn(pairs))

    def test_nothing(self):
        self.assertEqual(in_turn([]), [])

    def test_a_home_that_gets_what_it_holds(self):
        self.assertEqual(in_turn([(A, A), (S, S)]), [])

    def test_one_pair(self):
        self.assertEqual(in_turn([(A, B)]), [("move", 2, 3)])
        self.assertEqual(in_turn([(A, V)]), [("pull", 2, 8)])
        self.assertEqual(in_turn([(V, A)]), [("push", 8, 2)])
        rows = in_turn([(S, T)])
        self.assertIn(rows, ([("pull", 0, 1), ("push", 0, 0)], [("pull", 1, 1), ("push", 0, 1)]))

    def test_one_home_handed_to_several(self):
        self.check([(A, B), (C, B), (S, B)])
        self.check([(S, T), (U, T), (A, T)])
        self.check([(A, B), (B, B), (C, B)])

    def test_chains(self):
        self.check([(A, B), (B, C), (C, D)])
        self.check([(C, D), (B, C), (A, B)])
        self.check([(S, T), (T, U), (U, V)])
        self.check([(A, S), (S, B), (B, T), (T, C)])

    def test_rings_of_boxes(self):
        self.check([(A, B), (B, A)])
        self.check([(A, B), (B, C), (C, D), (D, A)])

    def test_rings_of_slots(self):
        self.check([(S, T), (T, S)])
        self.check([(S, T), (T, U), (U, V), (V, S)])

    def test_mixed_rings(self):
        self.check([(A, S), (S, A)])
        self.check([(A, S), (S, B), (B, T), (T, A)])
        self.check([(A, B), (B, S), (S, A)])
        self.check([(A, S), (S, T), (T, A)])
        self.check([(A, B), (B, S), (S, T), (T, U), (U, A)])

    def test_rings_with_more_beside_them(self):
        self.check([(A, B), (B, A), (C, A)])
        self.check([(C, A), (D, C), (A, B), (B, A), (S, D)])
        self.check([(S, T), (T, S), (U, S), (A, T)])
        self.check([(A, S), (S, A), (U, S), (V, U)])

    def test_several_rings(self):
        self.check([(A, B), (B, A), (C, D), (D, C)])
        self.check([(A, B), (B, A), (S, T), (T, S)])
        self.check([(S, T), (T, S), (U, V), (V, U), (A, C), (C, A)])
        self.check([(A, S), (S, A), (B, T), (T, B), (U, V), (V, U)])

    def test_every_way_over_four_homes(self):
        for homes in ((A, B, C, D), (A, B, C, S), (A, B, S, T), (A, S, T, U), (S, T, U, V)):
            for sources in itertools.product((None,) + homes, repeat=4):
                self.check([(to, held) for to, held in zip(homes, sources) if held is not None])

    def test_many_pairs_in_any_order(self):
        rng = random.Random(151)
        homes = [("box", number) for number in range(2, 9)] + [("slot", number) for number in range(9)]
        for index in range(1500):
            some = rng.sample(homes, rng.randint(1, 12))
            tos = rng.sample(some, rng.randint(1, len(some)))
            self.check([(to, rng.choice(some)) for to in tos])
            self.check(list(zip(some, rng.sample(some, len(some)))))

    def test_answers_are_new_and_nothing_is_changed(self):
        for pairs in ([], [(A, A)], [(A, B), (B, A)], [(S, T), (T, S), (A, S)], [(A, B), (B, C)]):
            samples.check_answers(self, in_turn, pairs)


if __name__ == "__main__":
    unittest.main()
