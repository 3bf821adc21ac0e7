import itertools
import random
import unittest

import samples
from boxwright.ways import comes, gates, reached


def small_ways():
    """Every list of up to three blocks with up to two ways each."""
    for count in (1, 2, 3):
        each = [list(ways) for size in (0, 1, 2) for ways in itertools.product(range(count), repeat=size)]
        for ways in itertools.product(each, repeat=count):
            yield [list(further) for further in ways]


def more_ways(seed, count):
    rng = random.Random(seed)
    return [samples.random_ways(rng) for index in range(count)]


def plain_steps(ways):
    """For each reached block how many steps it is away, by rounds."""
    steps, last, count = {0: 0}, {0}, 0
    while last:
        count += 1
        last = {way for block in last for way in ways[block]} - set(steps)
        steps.update({block: count for block in last})
    return steps


def plain_gates(ways):
    above = samples.on_every_way(ways)
    told = [None] * len(ways)
    for block in above:
        others = above[block] - {block}
        nearest = [gate for gate in others if others <= above[gate]]
        told[block] = nearest[0] if nearest else None
    return told


class TestReached(unittest.TestCase):
    def check(self, ways):
        told, steps = reached(ways), plain_steps(ways)
        self.assertEqual(len(told), len(ways))
        for block, way in enumerate(told):
            if block not in steps:
                self.assertIsNone(way)
                continue
            self.assertEqual((way[0], way[-1], len(way)), (0, block, steps[block] + 1), ways)
            for one, other in zip(way, way[1:]):
                self.assertIn(other, ways[one])

    def test_one_block(self):
        self.assertEqual(reached([[]]), [[0]])
        self.assertEqual(reached([[0, 0]]), [[0]])

    def test_a_chain_and_what_nothing_leads_to(self):
        self.assertEqual(reached([[2], [2], [3], [], [4, 0]]), [[0], None, [0, 2], [0, 2, 3], None])

    def test_the_shorter_of_two_ways(self):
        self.assertEqual(reached([[1, 2], [3], [4], [4], [0]])[4], [0, 2, 4])
        self.assertEqual(reached([[2, 1], [4], [3], [4], [0]])[4], [0, 1, 4])

    def test_a_ring_to_the_first_block(self):
        self.assertEqual(reached([[1], [2], [0]]), [[0], [0, 1], [0, 1, 2]])

    def test_small_ways(self):
        for ways in small_ways():
            self.check(ways)

    def test_more_ways(self):
        for ways in more_ways(71, 1500):
            self.check(ways)

    def test_a_long_chain(self):
        ways = [[block + 1] for block in range(1500)] + [[0]]
        self.assertEqual(reached(ways)[1500], list(range(1501)))


class TestComes(unittest.TestCase):
    def check(self, ways):
        found = samples.found_without(ways, None)
        wanted = [sorted(block for block in found for way in ways[block] if way == further)
                  for further in range(len(ways))]
        self.assertEqual(comes(ways), wanted, ways)

    def test_doubles(self):
        self.assertEqual(comes([[1, 1], [1, 0, 1]]), [[1], [0, 0, 1, 1]])

    def test_without_blocks_that_are_not_reached(self):
        self.assertEqual(comes([[2], [2, 0, 1], [2]]), [[], [], [0, 2]])

    def test_rising_whatever_the_order_of_reaching(self):
        self.assertEqual(comes([[3], [4], [4], [2, 1], []]), [[], [3], [3], [0], [1, 2]])

    def test_one_block(self):
        self.assertEqual(comes([[]]), [[]])
        self.assertEqual(comes([[0]]), [[0]])

    def test_small_ways(self):
        for ways in small_ways():
            self.check(ways)

    def test_more_ways(self):
        for ways in more_ways(72, 1500):
            self.check(ways)


class TestGates(unittest.TestCase):
    def test_one_block(self):
        self.assertEqual(gates([[]]), [None])
        self.assertEqual(gates([[0, 0]]), [None])

    def test_two_arms_that_meet(self):
        self.assertEqual(gates([[1], [2, 3], [4], [4], [1]]), [None, 0, 1, 1, 1])

    def test_a_ring_with_two_ways_in(self):
        self.assertEqual(gates([[1, 2], [2], [1, 3], []]), [None, 0, 0, 2])

    def test_a_block_behind_its_gate_by_number(self):
        self.assertEqual(gates([[3], [2], [], [1]]), [None, 3, 1, 0])

    def test_what_is_not_reached_has_none_and_does_not_count(self):
        self.assertEqual(gates([[1], [2], [], [2, 0, 4], [3]]), [None, 0, 1, None, None])

    def test_one_block_twice_and_a_block_that_goes_to_itself(self):
        self.assertEqual(gates([[1, 1], [1, 2, 2], [2]]), [None, 0, 1])

    def test_rings_that_need_several_rounds(self):
        ways = [[1, 5], [2], [3, 1], [4, 2], [5, 3], [4, 6], []]
        self.assertEqual(gates(ways), plain_gates(ways))

    def test_small_ways(self):
        for ways in small_ways():
            self.assertEqual(gates(ways), plain_gates(ways), ways)

    def test_more_ways(self):
        for ways in more_ways(73, 2500):
            self.assertEqual(gates(ways), plain_gates(ways), ways)

    def test_many_blocks(self):
        rng = random.Random(74)
        for index in range(25):
            ways = [[rng.randrange(40) for way in range(rng.choice((1, 1, 2)))] for block in range(40)]
            self.assertEqual(gates(ways), plain_gates(ways), ways)

    def test_a_long_chain(self):
        ways = [[block + 1] for block in range(1500)] + [[0]]
        self.assertEqual(gates(ways), [None] + list(range(1500)))


class TestAnswers(unittest.TestCase):
    def test_answers_are_new_and_nothing_is_changed(self):
        for ways in [[[]], [[0]], [[1, 1], [0, 1]]] + more_ways(75, 60):
            for function in (reached, comes, gates):
                samples.check_answers(self, function, ways)


if __name__ == "__main__":
    unittest.main()
