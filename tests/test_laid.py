import random
import unittest

import samples
from boxwright.boxed import boxed
from boxwright.laid import laid
from boxwright.lastrun import last_run
from boxwright.lean import lean
from boxwright.once import once
from boxwright.thread import threaded

A, B, C, D = ("put", 2, 1), ("put", 2, 2), ("put", 2, 3), ("turn",)
END = ("end",)


def plain_laid(blocks):
    """The words of [21]: first the order of the blocks, then what stands in each, then the places."""
    order, laid_on = [], {}
    while len(order) < len(blocks):
        least = min(number for number in range(len(blocks)) if number not in order)
        wanted = blocks[order[-1]][1][-1] if order and blocks[order[-1]][1] != END else None
        laid_on[len(order)] = wanted is not None and wanted not in order
        order.append(wanted if laid_on[len(order)] else least)
    stands = []
    for spot, number in enumerate(order):
        rows, end = blocks[number]
        more = [end[:3]] if end[0] == "if" else [end] if end == END else []
        if end != END and not laid_on.get(spot + 1, False):
            more.append(("go", end[-1]))
        stands.append(rows + more)
    places = {number: sum(map(len, stands[:spot])) for spot, number in enumerate(order)}
    rows = [row for each in stands for row in each]
    return [row[:-1] + (places[row[-1]],) if row[0] in ("go", "if") else row for row in rows]


class TestLaid(unittest.TestCase):
    def expect(self, blocks, wanted):
        self.assertEqual(laid(blocks), wanted)
        self.assertEqual(plain_laid(blocks), wanted)

    def test_one_block(self):
        self.expect([([], END)], [END])
        self.expect([([A, B], END)], [A, B, END])

    def test_a_go_to_a_block_that_is_not_laid_has_no_row(self):
        self.expect([([A], ("go", 1)), ([B], END)], [A, B, END])
        self.expect([([A], ("go", 2)), ([B], END), ([C], END)], [A, C, END, B, END])

    def test_a_go_to_a_block_that_is_laid(self):
        self.expect([([A], ("go", 1)), ([D], ("go", 0))], [A, D, ("go", 0)])
        self.expect([([A], ("go", 1)), ([B, D], ("go", 1))], [A, B, D, ("go", 1)])

    def test_a_block_that_goes_to_itself(self):
        self.expect([([D], ("go", 0))], [D, ("go", 0)])
        self.expect([([D], ("go", 0)), ([A], END)], [D, ("go", 0), A, END])

    def test_behind_an_if_its_no(self):
        self.expect([([A], ("if", 3, 1, 2)), ([B], END), ([C], END)], [A, ("if", 3, 4), C, END, B, END])
        self.expect([([A], ("if", 3, 2, 1)), ([B], END), ([C], END)], [A, ("if", 3, 4), B, END, C, END])

    def test_an_if_whose_no_is_laid(self):
        self.expect([([A], ("go", 1)), ([D], ("if", 3, 2, 0)), ([C], END)], [A, D, ("if", 3, 4), ("go", 0), C, END])
        self.expect([([D], ("if", 3, 0, 0))], [D, ("if", 3, 0), ("go", 0)])

    def test_an_if_whose_yes_and_no_are_one_block(self):
        self.expect([([A], ("if", 3, 1, 1)), ([B], END)], [A, ("if", 3, 2), B, END])

    def test_the_least_block_not_laid_behind_an_end_and_behind_a_go(self):
        blocks = [([A], ("go", 3)), ([B], END), ([C], END), ([D], END)]
        self.expect(blocks, [A, D, END, B, END, C, END])
        blocks = [([A], ("go", 3)), ([B], END), ([C], END), ([D], ("go", 0))]
        self.expect(blocks, [A, D, ("go", 0), B, END, C, END])

    def test_places_of_blocks_without_rows(self):
        self.expect([([A], ("if", 3, 2, 1)), ([B], END), ([], ("if", 4, 0, 1))],
                    [A, ("if", 3, 4), B, END, ("if", 4, 0), ("go", 2)])
        self.expect([([A], ("if", 3, 2, 1)), ([B], END), ([], END)], [A, ("if", 3, 4), B, END, END])
        self.expect([([A], ("if", 3, 2, 1)), ([B, D], ("go", 0)), ([], ("go", 1))],
                    [A, ("if", 3, 5), B, D, ("go", 0), ("go", 2)])

    def test_places_of_blocks_without_rows_that_have_none_of_their_own(self):
        blocks = [([A], ("if", 3, 1, 4)), ([], ("go", 2)), ([], ("go", 3)), ([C], END), ([B], ("if", 3, 2, 1))]
        self.expect(blocks, [A, ("if", 3, 4), B, ("if", 3, 4), C, END])

    def test_the_first_block_without_rows(self):
        self.expect([([], ("go", 1)), ([D], ("go", 0))], [D, ("go", 0)])
        self.expect([([], ("if", 2, 1, 2)), ([A], END), ([B], END)], [("if", 2, 3), B, END, A, END])

    def test_blocks_that_nothing_comes_to_are_laid_too(self):
        self.expect([([A], END), ([B], ("go", 3)), ([C], END), ([D], ("go", 1))],
                    [A, END, B, D, ("go", 2), C, END])

    def test_against_the_words(self):
        for blocks in samples.many_boxed(221, 1500) + samples.many_boxed(222, 80, 25):
            self.assertEqual(laid(blocks), plain_laid(blocks), blocks)
            self.assertEqual(laid(threaded(blocks)), plain_laid(threaded(blocks)), blocks)

    def test_of_threaded_blocks_no_jump_leads_to_a_go_and_no_go_to_the_next_row(self):
        graphs = [lean(once(rows)[0]) for rows in samples.programs(223, 200, 60)]
        for blocks in samples.many_boxed(224, 800) + [boxed(graph, 2 + at % 8) for at, graph in enumerate(graphs)]:
            last = laid(threaded(blocks))
            for place, row in enumerate(last):
                if row[0] in ("go", "if"):
                    self.assertTrue(0 <= row[-1] < len(last))
                    self.assertNotEqual(last[row[-1]][0], "go", blocks)
                if row[0] == "go":
                    self.assertNotEqual(row[1], place + 1)

    def test_runs(self):
        rng = random.Random(225)
        for blocks in samples.many_boxed(226, 800):
            inputs, turns = samples.random_inputs(rng), rng.randint(0, 9)
            wanted = samples.run_blocks(blocks, inputs, turns)
            self.assertEqual(last_run(laid(blocks), inputs, turns), wanted)
            self.assertEqual(last_run(laid(threaded(blocks)), inputs, turns), wanted)

    def test_answers_are_new_and_nothing_is_changed(self):
        for blocks in [[([], END)]] + samples.many_boxed(227, 60):
            samples.check_answers(self, laid, blocks)


if __name__ == "__main__":
    unittest.main()
