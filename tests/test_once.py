import random
import unittest

import samples
from boxwright.blocks import cut, goes
from boxwright.errors import BadProgram
from boxwright.firstrun import first_run
from boxwright.once import once
from boxwright.programs import need_program

FIRST_BLOCK = ([], [("set", 0, 0)], ("go", 1, ()))


def swapped(thing, old, new):
    """The same with the new value in the old one's place, wherever that stands."""
    if isinstance(thing, tuple):
        return tuple(swapped(part, old, new) for part in thing)
    if isinstance(thing, list):
        return [swapped(part, old, new) for part in thing]
    if isinstance(thing, dict):
        return {key: swapped(part, old, new) for key, part in thing.items()}
    return new if thing == old else thing


class Plain:
    """The words of [9] and [10] step by step; a value is a text like "#7" until the end."""

    def __init__(self, rows, rng):
        self.rows, self.rng, self.names, self.spans, self.ways = rows, rng, need_program(rows), cut(rows), goes(rows)
        self.kept = sorted(samples.found_without(self.ways, None))
        self.holds, self.blocks, self.behind, self.fresh = {}, {}, {}, 0
        self.stack = [None] + [block for block in self.kept for way in self.ways[block]]
        self.leads = [0] + [way for block in self.kept for way in self.ways[block]]
        for block in self.kept:
            if self.leads.count(block) > 1:
                self.holds[block] = {name: self.new() for name in self.names}
        self.params = {block: dict(self.holds.get(block, {})) for block in self.kept}
        for block in self.kept:
            self.finish(block)

    def new(self):
        self.fresh += 1
        return f"#{self.fresh}"

    def finish(self, block):
        """What names hold behind a block; that of the one block ahead of it is asked first."""
        if block is None:
            return {name: "#0" for name in self.names}
        if block not in self.behind:
            if block not in self.holds:
                self.holds[block] = dict(self.finish(self.stack[self.leads.index(block)]))
            self.walk(block)
        return self.behind[block]

    def walk(self, block):
        holds, told = dict(self.holds[block]), []
        for row in self.rows[slice(*self.spans[block])]:
            word, parts = row[0], row[1:]
            if word == "copy":
                holds[parts[0]] = holds[parts[1]]
            elif word == "tell":
                told.append(("tell", holds[parts[0]]))
            elif word == "turn":
                told.append(row)
            elif word in ("set", "take", "do"):
                new = self.new()
                told.append((word, new, *parts[1:]) if word != "do" else
                            ("do", new, parts[1], holds[parts[2]], holds[parts[3]]))
                holds[parts[0]] = new
        self.blocks[block], self.behind[block] = told, holds

    def needless(self):
        found = []
        for block in self.kept:
            for name, param in self.params[block].items():
                args = {self.finish(ahead)[name] for ahead, way in zip(self.stack, self.leads) if way == block}
                if len(args - {param}) == 1:
                    found.append((block, name, param, (args - {param}).pop()))
        return found

    def thin(self):
        while found := self.needless():
            block, name, param, value = self.rng.choice(found)
            del self.params[block][name]
            self.holds, self.blocks, self.behind = swapped((self.holds, self.blocks, self.behind), param, value)

    def go(self, ahead, block):
        args = tuple(self.finish(ahead)[name] for name in self.params[block])
        return ("go", self.kept.index(block) + 1, args)

    def graph(self):
        blocks, put_in = [([], [("set", "#0", 0)], self.go(None, 0))], []
        for block in self.kept:
            ways, end = self.ways[block], ("end",)
            if len(ways) == 1:
                end = self.go(block, ways[0])
            if len(ways) == 2:
                targets = []
                for way in ways:
                    targets.append(self.kept.index(way) + 1)
                    if self.params[way]:
                        put_in.append(([], [], self.go(block, way)))
                        targets[-1] = len(self.kept) + len(put_in)
                asked = self.behind[block][self.rows[self.spans[block][1] - 1][1]]
                end = ("if", asked, *targets)
            blocks.append((list(self.params[block].values()), self.blocks[block], end))
        return blocks + put_in

    def told(self):
        self.thin()
        answer = (self.graph(), self.holds)
        for number, value in enumerate(samples.all_values(answer[0])):
            answer = swapped(answer, value, number)
        return answer


class TestSmallPrograms(unittest.TestCase):
    def expect(self, rows, graph, holds):
        told = once(rows)
        self.assertIs(type(told), tuple)
        self.assertEqual(told, (graph, holds))
        samples.check_graph(self, graph)

    def test_without_rows(self):
        self.expect([], [FIRST_BLOCK, ([], [], ("end",))], {0: {}})

    def test_each_row_that_is_no_jump(self):
        rows = [("take", "a"), ("set", "b", -5), ("do", "a", "less", "b", "a"), ("turn",), ("tell", "a"),
                ("tell", "c"), ("end",)]
        block = ([], [("take", 1), ("set", 2, -5), ("do", 3, "less", 2, 1), ("turn",), ("tell", 3), ("tell", 0)],
                 ("end",))
        self.expect(rows, [FIRST_BLOCK, block], {0: {"a": 0, "b": 0, "c": 0}})

    def test_copies_give_no_rows(self):
        rows = [("take", "a"), ("copy", "b", "a"), ("take", "a"), ("copy", "c", "b"), ("copy", "b", "b"),
                ("do", "b", "sum", "b", "a"), ("tell", "c"), ("tell", "b")]
        block = ([], [("take", 1), ("take", 2), ("do", 3, "sum", 1, 2), ("tell", 1), ("tell", 3)], ("go", 2, ()))
        self.expect(rows, [FIRST_BLOCK, block, ([], [], ("end",))],
                    {0: {"a": 0, "b": 0, "c": 0}, 1: {"a": 2, "b": 3, "c": 1}})

    def test_a_ring(self):
        rows = [("take", "n"), ("set", "s", 0), ("turn",), ("do", "s", "sum", "s", "n"), ("set", "o", 1),
                ("do", "n", "less", "n", "o"), ("if", "n", 2), ("tell", "s")]
        graph = [FIRST_BLOCK,
                 ([], [("take", 1), ("set", 2, 0)], ("go", 2, (1, 2, 0))),
                 ([3, 4, 5], [("turn",), ("do", 6, "sum", 4, 3), ("set", 7, 1), ("do", 8, "less", 3, 7)],
                  ("if", 8, 5, 3)),
                 ([], [("tell", 6)], ("go", 4, ())),
                 ([], [], ("end",)),
                 ([], [], ("go", 2, (8, 6, 7)))]
        self.expect(rows, graph, {0: {"n": 0, "s": 0, "o": 0}, 1: {"n": 3, "s": 4, "o": 5},
                                  2: {"n": 8, "s": 6, "o": 7}, 3: {"n": 8, "s": 6, "o": 7}})

    def test_names_that_no_ring_changes_have_no_params(self):
        rows = [("take", "a"), ("take", "b"), ("turn",), ("tell", "a"), ("take", "b"), ("if", "b", 2)]
        graph = [FIRST_BLOCK,
                 ([], [("take", 1), ("take", 2)], ("go", 2, (2,))),
                 ([3], [("turn",), ("tell", 1), ("take", 4)], ("if", 4, 4, 3)),
                 ([], [], ("end",)),
                 ([], [], ("go", 2, (4,)))]
        self.expect(rows, graph, {0: {"a": 0, "b": 0}, 1: {"a": 1, "b": 3}, 2: {"a": 1, "b": 4}})

    def test_the_beginning_as_a_block_that_is_jumped_to(self):
        rows = [("turn",), ("take", "a"), ("if", "a", 0), ("tell", "b")]
        graph = [([], [("set", 0, 0)], ("go", 1, (0,))),
                 ([1], [("turn",), ("take", 2)], ("if", 2, 4, 2)),
                 ([], [("tell", 0)], ("go", 3, ())),
                 ([], [], ("end",)),
                 ([], [], ("go", 1, (2,)))]
        self.expect(rows, graph, {0: {"a": 1, "b": 0}, 1: {"a": 2, "b": 0}, 2: {"a": 2, "b": 0}})

    def test_the_beginning_with_needless_params_alone(self):
        self.expect([("turn",), ("if", "a", 0)],
                    [FIRST_BLOCK, ([], [("turn",)], ("if", 0, 1, 2)), ([], [], ("end",))], {0: {"a": 0}, 1: {"a": 0}})

    def test_both_ways_of_an_if_to_one_block_have_the_same_args(self):
        rows = [("take", "a"), ("if", "a", 2), ("tell", "a")]
        graph = [FIRST_BLOCK, ([], [("take", 1)], ("if", 1, 2, 2)), ([], [("tell", 1)], ("go", 3, ())),
                 ([], [], ("end",))]
        self.expect(rows, graph, {0: {"a": 0}, 1: {"a": 1}, 2: {"a": 1}})

    def test_both_ways_of_an_if_to_one_block_with_params(self):
        rows = [("take", "a"), ("if", "a", 4), ("take", "b"), ("if", "b", 4), ("tell", "b")]
        graph = [FIRST_BLOCK,
                 ([], [("take", 1)], ("if", 1, 5, 2)),
                 ([], [("take", 2)], ("if", 2, 6, 7)),
                 ([3], [("tell", 3)], ("go", 4, ())),
                 ([], [], ("end",)),
                 ([], [], ("go", 3, (0,))),
                 ([], [], ("go", 3, (2,))),
                 ([], [], ("go", 3, (2,)))]
        self.expect(rows, graph, {0: {"a": 0, "b": 0}, 1: {"a": 1, "b": 0}, 2: {"a": 1, "b": 3},
                                  3: {"a": 1, "b": 3}})

    def test_both_ways_of_an_if_to_two_blocks_with_params(self):
        rows = [("take", "a"), ("turn",), ("take", "b"), ("if", "a", 5), ("take", "a"), ("if", "b", 1)]
        graph = [FIRST_BLOCK,
                 ([], [("take", 1)], ("go", 2, (1, 0))),
                 ([2, 3], [("turn",), ("take", 4)], ("if", 2, 6, 3)),
                 ([], [("take", 5)], ("go", 4, (5,))),
                 ([6], [], ("if", 4, 7, 5)),
                 ([], [], ("end",)),
                 ([], [], ("go", 4, (2,))),
                 ([], [], ("go", 2, (6, 4)))]
        self.expect(rows, graph, {0: {"a": 0, "b": 0}, 1: {"a": 2, "b": 3}, 2: {"a": 2, "b": 4},
                                  3: {"a": 6, "b": 4}, 4: {"a": 6, "b": 4}})

    def test_params_in_the_order_of_names_as_first_met(self):
        rows = [("tell", "z"), ("do", "y", "sum", "x", "z"), ("if", "y", 5), ("take", "x"), ("take", "z"),
                ("tell", "x"), ("tell", "z")]
        graph = [FIRST_BLOCK,
                 ([], [("tell", 0), ("do", 1, "sum", 0, 0)], ("if", 1, 5, 2)),
                 ([], [("take", 2), ("take", 3)], ("go", 3, (3, 2))),
                 ([4, 5], [("tell", 5), ("tell", 4)], ("go", 4, ())),
                 ([], [], ("end",)),
                 ([], [], ("go", 3, (0, 0)))]
        self.expect(rows, graph, {0: {"z": 0, "y": 0, "x": 0}, 1: {"z": 0, "y": 1, "x": 0},
                                  2: {"z": 4, "y": 1, "x": 5}, 3: {"z": 4, "y": 1, "x": 5}})

    def test_a_ring_with_two_ways_in_keeps_params_that_only_hand_on(self):
        rows = [("take", "a"), ("if", "b", 3), ("turn",), ("turn",), ("if", "a", 2)]
        graph = [FIRST_BLOCK,
                 ([], [("take", 1)], ("if", 0, 5, 6)),
                 ([2, 3], [("turn",)], ("go", 3, (2, 3))),
                 ([4, 5], [("turn",)], ("if", 4, 7, 4)),
                 ([], [], ("end",)),
                 ([], [], ("go", 3, (1, 0))),
                 ([], [], ("go", 2, (1, 0))),
                 ([], [], ("go", 2, (4, 5)))]
        self.expect(rows, graph, {0: {"a": 0, "b": 0}, 1: {"a": 2, "b": 3}, 2: {"a": 4, "b": 5},
                                  3: {"a": 4, "b": 5}})

    def test_params_that_become_needless_when_others_have_gone(self):
        # The inner ring's param has the outer one's and itself; the outer one's then has the inner one's alone.
        rows = [("take", "a"), ("turn",), ("turn",), ("take", "b"), ("if", "b", 2), ("if", "b", 1), ("tell", "a")]
        graph = [FIRST_BLOCK,
                 ([], [("take", 1)], ("go", 2, (0,))),
                 ([2], [("turn",)], ("go", 3, (2,))),
                 ([3], [("turn",), ("take", 4)], ("if", 4, 7, 4)),
                 ([], [], ("if", 4, 8, 5)),
                 ([], [("tell", 1)], ("go", 6, ())),
                 ([], [], ("end",)),
                 ([], [], ("go", 3, (4,))),
                 ([], [], ("go", 2, (4,)))]
        self.expect(rows, graph, {0: {"a": 0, "b": 0}, 1: {"a": 1, "b": 2}, 2: {"a": 1, "b": 3},
                                  3: {"a": 1, "b": 4}, 4: {"a": 1, "b": 4}, 5: {"a": 1, "b": 4}})

    def test_copies_round_a_ring(self):
        rows = [("take", "a"), ("copy", "b", "a"), ("turn",), ("copy", "c", "a"), ("copy", "a", "b"),
                ("copy", "b", "c"), ("take", "d"), ("if", "d", 2), ("tell", "a")]
        told = once(rows)
        self.assertEqual(told, Plain(rows, random.Random(1)).told())
        samples.check_graph(self, told[0])
        self.assertEqual([len(block[0]) for block in told[0]], [0, 0, 4, 0, 0, 0])

    def test_blocks_that_are_not_reached_are_left_out_and_do_not_count_as_ways(self):
        rows = [("take", "a"), ("go", 4), ("take", "b"), ("take", "c"), ("tell", "a"), ("end",), ("go", 7)]
        graph = [FIRST_BLOCK, ([], [("take", 1)], ("go", 2, ())), ([], [("tell", 1)], ("end",))]
        self.expect(rows, graph, {0: {"a": 0, "b": 0, "c": 0}, 2: {"a": 1, "b": 0, "c": 0}})

    def test_one_way_alone_from_a_later_block(self):
        rows = [("take", "a"), ("go", 4), ("turn",), ("end",), ("take", "b"), ("go", 2)]
        graph = [FIRST_BLOCK, ([], [("take", 1)], ("go", 3, ())), ([], [("turn",)], ("end",)),
                 ([], [("take", 2)], ("go", 2, ()))]
        self.expect(rows, graph, {0: {"a": 0, "b": 0}, 1: {"a": 1, "b": 2}, 2: {"a": 1, "b": 0}})


class TestManyPrograms(unittest.TestCase):
    def test_against_the_words_step_by_step_in_any_order(self):
        rng = random.Random(91)
        for rows in samples.programs(92, 500) + samples.programs(93, 40, 60):
            wanted = Plain(rows, rng).told()
            self.assertEqual(once(rows), wanted, rows)

    def test_the_form(self):
        for rows in samples.programs(94, 400) + samples.programs(95, 60, 60):
            graph, holds = once(rows)
            samples.check_graph(self, graph)
            ways = goes(rows)
            kept = sorted(samples.found_without(ways, None))
            self.assertEqual(samples.all_values(graph), list(range(len(samples.all_values(graph)))))
            self.assertEqual(graph[0][:2], ([], [("set", 0, 0)]))
            self.assertEqual(graph[0][2][:2], ("go", 1))
            self.assertEqual(list(holds), kept)
            self.assertTrue(all(block[:2] == ([], []) and block[2][0] == "go" and block[2][2]
                                for block in graph[len(kept) + 1:]))
            for block in kept:
                self.assertEqual(list(holds[block]), need_program(rows))

    def test_runs_and_what_names_hold(self):
        rng = random.Random(96)
        for rows in samples.programs(97, 600) + samples.programs(98, 60, 60):
            graph, holds = once(rows)
            kept = list(holds)
            inputs, turns = samples.random_inputs(rng), rng.randint(0, 9)
            seen = []
            wanted = first_run(rows, inputs, turns)
            self.assertEqual(samples.run_blocks(graph, inputs, turns, seen), wanted, (rows, inputs, turns))
            self.check_names(rows, inputs, [(kept[at - 1], {name: values[holds[kept[at - 1]][name]]
                                                            for name in holds[kept[at - 1]]})
                                            for at, values in seen if 0 < at <= len(kept)])

    def check_names(self, rows, inputs, seen):
        """The names as the program's own run has them, block by block."""
        spans, ways, machine, at = cut(rows), goes(rows), samples.Machine(inputs, 10000), 0
        for index, (block, names) in enumerate(seen):
            self.assertEqual(block, at)
            self.assertEqual({name: machine.holds.get(name, 0) for name in names}, names, rows)
            if index + 1 < len(seen):
                for row in rows[slice(*spans[block])]:
                    if row[0] not in ("if", "go", "end"):
                        machine.do(("move",) + row[1:] if row[0] == "copy" else row)
                last = rows[spans[block][1] - 1]
                no = last[0] == "if" and machine.holds.get(last[1], 0) == 0
                at = ways[block][1 if no else 0]


class TestAnswers(unittest.TestCase):
    def test_what_is_no_program_is_refused(self):
        for rows, at in ((None, None), ((), None), ([("turn",)] * 61, None), ([("end",), ["end"]], 1),
                         ([("turn",), ("go", 1)], 1), ([("tell", name) for name in samples.NAMES + ["m"]], 12)):
            with self.subTest(repr(rows)):
                with self.assertRaises(BadProgram) as caught:
                    once(rows)
                self.assertEqual(caught.exception.at, at)

    def test_answers_are_new_and_nothing_is_changed(self):
        for rows in [[]] + samples.programs(99, 60):
            samples.check_answers(self, once, rows)


if __name__ == "__main__":
    unittest.main()
