import random
import unittest

import samples
from boxwright.boxed import boxed
from boxwright.lean import lean
from boxwright.once import once
from boxwright.thread import threaded

A, B, C = ("put", 2, 1), ("put", 2, 2), ("put", 2, 3)
END = ("end",)


class Plain:
    """The words of [20], one change at a time, in any order."""

    def __init__(self, blocks, rng):
        self.rng = rng
        self.rows = {number: list(rows) for number, (rows, end) in enumerate(blocks)}
        self.ends = {number: list(end) for number, (rows, end) in enumerate(blocks)}

    def spots(self, number):
        return {"go": [1], "if": [2, 3], "end": []}[self.ends[number][0]]

    def ways(self):
        return [(number, spot, self.ends[number][spot]) for number in self.ends for spot in self.spots(number)]

    def lead_on(self):
        found = [way for way in self.ways() if not self.rows[way[2]] and self.ends[way[2]][0] == "go"]
        if found:
            number, spot, further = self.rng.choice(found)
            self.ends[number][spot] = self.ends[further][1]
        return bool(found)

    def leave_out(self):
        ways = [[self.ends[number][spot] for spot in self.spots(number)] if number in self.ends else []
                for number in range(max(self.ends) + 1)]
        found = samples.found_without(ways, None)
        out = [number for number in self.ends if number not in found]
        for number in out:
            del self.rows[number], self.ends[number]
        return bool(out)

    def stand_in(self):
        ways = self.ways()
        comes = {number: [way for way in ways if way[2] == number] for number in self.ends}
        found = [(comes[number][0][0], number) for number in self.ends if number != 0 and len(comes[number]) == 1
                 and self.ends[comes[number][0][0]][0] == "go" and comes[number][0][0] != number]
        if found:
            number, inner = self.rng.choice(found)
            self.rows[number] += self.rows.pop(inner)
            self.ends[number] = self.ends.pop(inner)
        return bool(found)

    def told(self):
        while self.lead_on() or self.leave_out() or self.stand_in():
            pass
        left = sorted(self.ends)
        for number in left:
            for spot in self.spots(number):
                self.ends[number][spot] = left.index(self.ends[number][spot])
        return [(self.rows[number], tuple(self.ends[number])) for number in left]


class TestThreaded(unittest.TestCase):
    def expect(self, blocks, wanted):
        self.assertEqual(threaded(blocks), wanted)
        self.assertEqual(Plain(blocks, random.Random(1)).told(), wanted)

    def test_one_block(self):
        self.expect([([], END)], [([], END)])
        self.expect([([A], END)], [([A], END)])
        self.expect([([("turn",)], ("go", 0))], [([("turn",)], ("go", 0))])

    def test_a_go_by_one_block_without_rows(self):
        blocks = [([A], ("if", 2, 1, 2)), ([B], ("go", 3)), ([C], ("go", 4)), ([], ("go", 4)), ([A], END)]
        self.expect(blocks, [([A], ("if", 2, 1, 2)), ([B], ("go", 3)), ([C], ("go", 3)), ([A], END)])

    def test_an_if_by_several_blocks_without_rows(self):
        blocks = [([A], ("if", 2, 1, 3)), ([], ("go", 2)), ([], ("go", 4)), ([B], END), ([C], END)]
        self.expect(blocks, [([A], ("if", 2, 2, 1)), ([B], END), ([C], END)])

    def test_both_ways_of_an_if_to_one_block(self):
        blocks = [([A], ("if", 2, 1, 2)), ([], ("go", 3)), ([], ("go", 3)), ([B], END)]
        self.expect(blocks, [([A], ("if", 2, 1, 1)), ([B], END)])

    def test_a_block_without_rows_that_ends_otherwise_stays(self):
        blocks = [([A], ("if", 2, 1, 2)), ([], END), ([], ("if", 3, 1, 0))]
        self.expect(blocks, [([A], ("if", 2, 1, 2)), ([], END), ([], ("if", 3, 1, 0))])

    def test_the_first_block_without_rows_stays_the_first(self):
        blocks = [([], ("go", 1)), ([("turn",)], ("if", 2, 1, 2)), ([], END)]
        self.expect(blocks, [([], ("go", 1)), ([("turn",)], ("if", 2, 1, 2)), ([], END)])

    def test_a_jump_back_to_the_first_block_without_rows_leads_on(self):
        blocks = [([], ("go", 1)), ([("turn",)], ("if", 2, 0, 2)), ([], END)]
        self.expect(blocks, [([], ("go", 1)), ([("turn",)], ("if", 2, 1, 2)), ([], END)])

    def test_the_first_block_without_rows_takes_in_another(self):
        self.expect([([], ("go", 1)), ([A], ("if", 2, 2, 2)), ([], END)], [([A], ("if", 2, 1, 1)), ([], END)])

    def test_a_jump_back_to_the_first_block_with_rows(self):
        self.expect([([A], ("go", 1)), ([("turn",)], ("go", 0))], [([A, ("turn",)], ("go", 0))])

    def test_the_first_block_never_stands_in_another(self):
        # Just one way of a block leads to it, but the beginning is a way too.
        self.expect([([A], ("if", 2, 1, 2)), ([("turn",)], ("go", 0)), ([B], END)],
                    [([A], ("if", 2, 1, 2)), ([("turn",)], ("go", 0)), ([B], END)])

    def test_blocks_that_nothing_comes_to(self):
        blocks = [([A], END), ([B], ("go", 0)), ([C], ("go", 1))]
        self.expect(blocks, [([A], END)])

    def test_ways_from_blocks_that_are_left_out_do_not_count(self):
        blocks = [([A], ("go", 2)), ([B], ("go", 2)), ([C], END)]
        self.expect(blocks, [([A, C], END)])

    def test_ways_from_blocks_that_only_the_threading_leaves_behind_do_not_count(self):
        blocks = [([A], ("go", 1)), ([], ("go", 2)), ([C], END)]
        self.expect(blocks, [([A, C], END)])

    def test_again_and_again(self):
        blocks = [([A], ("go", 3)), ([C, C], END), ([C], ("go", 1)), ([B], ("go", 2))]
        self.expect(blocks, [([A, B, C, C, C], END)])

    def test_one_that_one_way_of_an_if_comes_to_stays(self):
        blocks = [([A], ("if", 2, 1, 2)), ([B], ("go", 2)), ([C], END)]
        self.expect(blocks, [([A], ("if", 2, 1, 2)), ([B], ("go", 2)), ([C], END)])

    def test_an_if_both_of_whose_ways_come_to_one_block(self):
        self.expect([([A], ("if", 2, 1, 1)), ([B], END)], [([A], ("if", 2, 1, 1)), ([B], END)])

    def test_a_block_that_goes_to_itself(self):
        blocks = [([A], ("go", 1)), ([("turn",)], ("go", 1))]
        self.expect(blocks, blocks)

    def test_a_ring_that_stands_in_one_block(self):
        blocks = [([A], ("go", 1)), ([B], ("go", 2)), ([("turn",)], ("go", 1))]
        self.expect(blocks, [([A], ("go", 1)), ([B, ("turn",)], ("go", 1))])

    def test_numbered_anew_in_the_old_order(self):
        blocks = [([A], ("if", 2, 5, 3)), ([A], END), ([], ("go", 6)), ([B], ("if", 2, 2, 5)), ([], END), ([C], END),
                  ([A], ("if", 2, 0, 3))]
        self.expect(blocks, [([A], ("if", 2, 2, 1)), ([B], ("if", 2, 3, 2)), ([C], END), ([A], ("if", 2, 0, 1))])

    def test_against_the_words_in_any_order(self):
        rng = random.Random(201)
        for blocks in samples.many_boxed(202, 1500) + samples.many_boxed(203, 60, 25):
            self.assertEqual(threaded(blocks), Plain(blocks, rng).told(), blocks)

    def test_threaded_blocks_threaded_are_the_same(self):
        for blocks in samples.many_boxed(204, 400):
            self.assertEqual(threaded(threaded(blocks)), threaded(blocks))

    def test_runs(self):
        rng = random.Random(205)
        graphs = [lean(once(rows)[0]) for rows in samples.programs(206, 120, 40)]
        many = samples.many_boxed(207, 800) + [boxed(graph, 2 + index % 8) for index, graph in enumerate(graphs)]
        for blocks in many:
            inputs, turns = samples.random_inputs(rng), rng.randint(0, 9)
            wanted = samples.run_blocks(blocks, inputs, turns)
            self.assertIn(wanted[0], ("done", "nought", "dry"))
            self.assertEqual(samples.run_blocks(threaded(blocks), inputs, turns), wanted)

    def test_a_long_chain(self):
        blocks = [([A], ("go", 1))] + [([], ("go", 2 + index)) for index in range(1500)] + [([B], END)]
        self.assertEqual(threaded(blocks), [([A, B], END)])
        blocks = [([A], ("go", 1 + index)) for index in range(1500)] + [([B], END)]
        self.assertEqual(threaded(blocks), [([A] * 1500 + [B], END)])

    def test_answers_are_new_and_nothing_is_changed(self):
        for blocks in samples.many_boxed(208, 60):
            samples.check_answers(self, threaded, blocks)


if __name__ == "__main__":
    unittest.main()
