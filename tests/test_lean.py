import random
import unittest

import samples
from boxwright.lean import lean, why
from boxwright.once import once

ALWAYS = ("tell", "if")


def outright(graph):
    """The values that a tell, a part or an if uses."""
    return {value for params, rows, end in graph for row in rows + [end]
            if row[0] in ALWAYS or row[0] == "do" and row[2] == "part" for value in samples.used_by(row)}


def leads_on(graph):
    """The pairs of a value and one that is given by a row that uses it, or as a param whose arg it is."""
    pairs = {(value, samples.given_by(row)) for params, rows, end in graph for row in rows
             if samples.given_by(row) is not None for value in samples.used_by(row)}
    for params, rows, end in graph:
        if end[0] == "go":
            pairs |= set(zip(end[2], graph[end[1]][0]))
    return pairs


def plain_needed(graph):
    needed, pairs = set(), leads_on(graph)
    more = outright(graph)
    while more - needed:
        needed |= more
        more = {value for value, made in pairs if made in needed}
    return needed


def plain_lean(graph):
    needed = plain_needed(graph)
    told = []
    for params, rows, end in graph:
        kept = [row for row in rows if row[0] in ("take", "tell", "turn") or "part" in row or row[1] in needed]
        if end[0] == "go":
            end = ("go", end[1], tuple(arg for arg, param in zip(end[2], graph[end[1]][0]) if param in needed))
        told.append(([param for param in params if param in needed], kept, end))
    return told


def many_graphs():
    return (samples.graphs(111, 700) + samples.graphs(112, 60, 14, 9)
            + [once(rows)[0] for rows in samples.programs(113, 250, 40)])


class TestNeeded(unittest.TestCase):
    def expect(self, graph, needed):
        values = samples.all_values(graph)
        self.assertEqual([value for value in values if why(graph, value) is not None],
                         [value for value in values if value in needed])
        self.assertEqual(lean(graph), plain_lean(graph))

    def one_block(self, rows, end=("end",)):
        return [([], rows, end)]

    def test_by_a_tell(self):
        self.expect(self.one_block([("set", 5, 1), ("set", 6, 2), ("tell", 6)]), {6})

    def test_by_each_thing_of_a_part_whose_own_value_is_not_needed(self):
        graph = self.one_block([("set", 5, 1), ("set", 6, 2), ("set", 7, 3), ("do", 8, "part", 6, 5)])
        self.expect(graph, {5, 6})
        self.assertEqual((why(graph, 5), why(graph, 6), why(graph, 8)), ([5], [6], None))

    def test_by_no_other_deed_alone(self):
        for word in ("sum", "less", "times", "below", "alike"):
            self.expect(self.one_block([("set", 5, 1), ("set", 6, 2), ("do", 8, word, 6, 5)]), set())

    def test_by_a_row_that_gives_a_needed_value(self):
        graph = self.one_block([("set", 9, 1), ("set", 3, 2), ("do", 4, "sum", 9, 3), ("do", 1, "less", 4, 4),
                                ("tell", 1), ("do", 2, "sum", 4, 1)])
        self.expect(graph, {9, 3, 4, 1})
        self.assertEqual(why(graph, 9), [9, 4, 1])
        self.assertEqual(why(graph, 3), [3, 4, 1])

    def test_by_an_if(self):
        graph = [([], [("set", 5, 1), ("take", 6)], ("if", 5, 1, 1)), ([], [], ("end",))]
        self.expect(graph, {5})

    def test_by_a_needed_param(self):
        graph = [([], [("set", 5, 1), ("set", 6, 2), ("set", 7, 3)], ("go", 1, (6, 5, 7))),
                 ([2, 1, 0], [("tell", 1), ("do", 8, "part", 0, 0)], ("end",))]
        self.expect(graph, {5, 1, 7, 0})
        self.assertEqual(why(graph, 5), [5, 1])
        self.assertEqual(lean(graph), [([], [("set", 5, 1), ("set", 7, 3)], ("go", 1, (5, 7))),
                                       ([1, 0], [("tell", 1), ("do", 8, "part", 0, 0)], ("end",))])

    def test_params_that_need_only_one_another_in_a_ring(self):
        graph = [([], [("set", 0, 0)], ("go", 1, (0, 0, 0))),
                 ([1, 2, 3], [("turn",), ("do", 4, "sum", 2, 1), ("take", 5)], ("if", 5, 2, 3)),
                 ([], [], ("go", 1, (4, 1, 3))),
                 ([], [("tell", 3)], ("end",))]
        self.expect(graph, {0, 3, 5})
        self.assertEqual(lean(graph), [([], [("set", 0, 0)], ("go", 1, (0,))),
                                       ([3], [("turn",), ("take", 5)], ("if", 5, 2, 3)),
                                       ([], [], ("go", 1, (3,))),
                                       ([], [("tell", 3)], ("end",))])

    def test_what_stays_though_nobody_needs_it(self):
        graph = [([], [("take", 4), ("set", 9, 1), ("set", 2, 7), ("do", 1, "part", 9, 9), ("turn",), ("tell", 9)],
                  ("go", 1, ())),
                 ([], [], ("go", 2, ())), ([], [("set", 3, 3)], ("end",))]
        self.assertEqual(lean(graph), [
            ([], [("take", 4), ("set", 9, 1), ("do", 1, "part", 9, 9), ("turn",), ("tell", 9)], ("go", 1, ())),
            ([], [], ("go", 2, ())), ([], [], ("end",))])

    def test_a_number_that_is_no_value(self):
        graph = self.one_block([("set", 5, 1), ("tell", 5)])
        for number in (0, 1, 4, 6, -1, -5, 10 ** 30):
            self.assertIsNone(why(graph, number))

    def test_a_number_in_a_set_is_no_use(self):
        self.expect(self.one_block([("set", 0, 1), ("set", 1, 0), ("tell", 1)]), {1})


class TestManyGraphs(unittest.TestCase):
    def test_against_the_words(self):
        for graph in many_graphs():
            told = lean(graph)
            self.assertEqual(told, plain_lean(graph), graph)
            samples.check_graph(self, told)

    def test_the_lean_graph_of_a_lean_graph_is_the_same(self):
        for graph in many_graphs():
            self.assertEqual(lean(lean(graph)), lean(graph))

    def test_chains(self):
        for graph in many_graphs():
            needed, pairs, last = plain_needed(graph), leads_on(graph), outright(graph)
            for value in samples.all_values(graph):
                chain = why(graph, value)
                if value not in needed:
                    self.assertIsNone(chain)
                    continue
                self.assertIs(type(chain), list)
                self.assertEqual(chain[0], value)
                self.assertTrue(all(pair in pairs for pair in zip(chain, chain[1:])), (graph, chain))
                self.assertIn(chain[-1], last)

    def test_runs(self):
        rng = random.Random(114)
        for graph in many_graphs():
            inputs, turns = samples.random_inputs(rng), rng.randint(0, 9)
            self.assertEqual(samples.run_blocks(lean(graph), inputs, turns), samples.run_blocks(graph, inputs, turns))

    def test_a_long_chain_of_rows(self):
        rows = [("set", 0, 1)] + [("do", value + 1, "sum", value, value) for value in range(1500)]
        graph = [([], rows + [("tell", 1500)], ("end",))]
        self.assertEqual(why(graph, 0), list(range(1501)))
        self.assertEqual(lean(graph), graph)

    def test_answers_are_new_and_nothing_is_changed(self):
        for graph in samples.graphs(115, 60) + [[([], [], ("end",))]]:
            samples.check_answers(self, lean, graph)
            for value in samples.all_values(graph)[:5]:
                samples.check_answers(self, why, graph, value)


if __name__ == "__main__":
    unittest.main()
