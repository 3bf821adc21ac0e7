import random
import unittest

import samples
from boxwright.boxed import boxed
from boxwright.homes import homes
from boxwright.lean import lean
from boxwright.once import once


def plain_row(row, found):
    """The words of [17] for one row or if: what is pulled, the row, what is pushed."""
    ahead, behind, boxes, things = [], [], [], samples.used_by(row)
    for hand, thing in enumerate(things):
        kind, number = found[thing]
        if kind == "box":
            boxes.append(number)
        elif hand == 1 and things[0] == thing:
            boxes.append(0)
        else:
            ahead.append(("pull", hand, number))
            boxes.append(hand)
    written = 0
    if samples.given_by(row) in found:
        kind, number = found[samples.given_by(row)]
        if kind == "box":
            written = number
        else:
            behind.append(("push", number, 0))
    made = {"set": lambda: ("put", written, row[2]), "do": lambda: ("do", written, row[2], *boxes),
            "take": lambda: ("take", written), "tell": lambda: ("tell", *boxes), "turn": lambda: row,
            "if": lambda: ("if", *boxes, *row[2:])}[row[0]]()
    return ahead, made, behind


class TestRows(unittest.TestCase):
    def expect(self, graph, boxes, blocks):
        self.assertEqual(boxed(graph, boxes), blocks)

    def test_without_rows(self):
        self.expect([([], [], ("go", 1, ())), ([], [], ("end",))], 2, [([], ("go", 1)), ([], ("end",))])

    def test_each_row_with_boxes(self):
        graph = [([], [("set", 5, -4), ("take", 6), ("do", 7, "less", 5, 6), ("turn",), ("tell", 7), ("tell", 5)],
                  ("end",))]
        self.expect(graph, 4, [([("put", 2, -4), ("take", 3), ("do", 3, "less", 2, 3), ("turn",), ("tell", 3),
                                 ("tell", 2)], ("end",))])

    def test_each_row_with_slots(self):
        graph = [([], [("set", 5, -4), ("take", 6), ("do", 7, "less", 5, 6), ("turn",), ("tell", 7), ("tell", 5)],
                  ("end",))]
        rows = [("put", 0, -4), ("push", 0, 0), ("take", 0), ("push", 1, 0), ("pull", 0, 0), ("pull", 1, 1),
                ("do", 0, "less", 0, 1), ("push", 1, 0), ("turn",), ("pull", 0, 1), ("tell", 0), ("pull", 0, 0),
                ("tell", 0)]
        self.expect(graph, 2, [(rows, ("end",))])

    def test_the_second_thing_is_pulled_into_hand_one_where_the_first_has_a_box(self):
        graph = [([], [("set", 1, 3), ("set", 2, 4), ("do", 3, "less", 2, 1), ("tell", 3), ("tell", 1)], ("end",))]
        self.assertEqual(homes(graph, 3), {1: ("slot", 0), 2: ("box", 2), 3: ("box", 2)})
        self.expect(graph, 3, [([("put", 0, 3), ("push", 0, 0), ("put", 2, 4), ("pull", 1, 0),
                                 ("do", 2, "less", 2, 1), ("tell", 2), ("pull", 0, 0), ("tell", 0)], ("end",))])

    def test_the_first_thing_is_pulled_into_hand_nought_where_the_second_has_a_box(self):
        graph = [([], [("set", 1, 3), ("set", 2, 4), ("do", 3, "less", 1, 2), ("tell", 3), ("tell", 1)], ("end",))]
        self.expect(graph, 3, [([("put", 0, 3), ("push", 0, 0), ("put", 2, 4), ("pull", 0, 0),
                                 ("do", 2, "less", 0, 2), ("tell", 2), ("pull", 0, 0), ("tell", 0)], ("end",))])

    def test_both_things_one_spilled_value(self):
        graph = [([], [("take", 1), ("do", 2, "times", 1, 1), ("tell", 2)], ("end",))]
        self.expect(graph, 2, [([("take", 0), ("push", 0, 0), ("pull", 0, 0), ("do", 0, "times", 0, 0),
                                 ("push", 0, 0), ("pull", 0, 0), ("tell", 0)], ("end",))])

    def test_both_things_one_value_with_a_box(self):
        graph = [([], [("take", 1), ("do", 2, "times", 1, 1), ("tell", 2)], ("end",))]
        self.expect(graph, 3, [([("take", 2), ("do", 2, "times", 2, 2), ("tell", 2)], ("end",))])

    def test_a_value_without_a_home_is_made_in_hand_nought(self):
        graph = [([], [("take", 1), ("set", 2, 7), ("do", 3, "part", 2, 2)], ("end",))]
        self.expect(graph, 3, [([("take", 0), ("put", 2, 7), ("do", 0, "part", 2, 2)], ("end",))])
        self.expect(graph, 2, [([("take", 0), ("put", 0, 7), ("push", 0, 0), ("pull", 0, 0), ("do", 0, "part", 0, 0)],
                                ("end",))])

    def test_an_if(self):
        graph = [([], [("take", 4), ("turn",)], ("if", 4, 2, 1)), ([], [], ("end",)), ([], [], ("end",))]
        self.expect(graph, 3, [([("take", 2), ("turn",)], ("if", 2, 2, 1)), ([], ("end",)), ([], ("end",))])
        self.expect(graph, 2, [([("take", 0), ("push", 0, 0), ("turn",), ("pull", 0, 0)], ("if", 0, 2, 1)),
                               ([], ("end",)), ([], ("end",))])

    def test_a_go_with_params_in_boxes(self):
        graph = [([], [("take", 4), ("take", 5)], ("go", 1, (5, 4))), ([1, 2], [("tell", 1), ("tell", 2)], ("end",))]
        told = boxed(graph, 9)
        self.assertEqual(told[0][0][:2], [("take", 2), ("take", 3)])
        samples.check_moves(self, [(("box", 2), ("box", 3)), (("box", 3), ("box", 2))], told[0][0][2:])
        self.assertEqual((told[0][1], told[1]), (("go", 1), ([("tell", 2), ("tell", 3)], ("end",))))

    def test_a_go_with_params_in_slots_and_without_a_home(self):
        graph = [([], [("take", 4)], ("go", 1, (4, 4))), ([1, 2], [("tell", 2)], ("end",))]
        self.expect(graph, 2, [([("take", 0), ("push", 0, 0)], ("go", 1)), ([("pull", 0, 0), ("tell", 0)], ("end",))])
        self.expect(graph, 3, [([("take", 2)], ("go", 1)), ([("tell", 2)], ("end",))])

    def test_a_go_to_a_param_without_a_home_alone(self):
        graph = [([], [("take", 4)], ("go", 1, (4,))), ([1], [("turn",)], ("end",))]
        self.expect(graph, 3, [([("take", 2)], ("go", 1)), ([("turn",)], ("end",))])


class TestManyGraphs(unittest.TestCase):
    def graphs(self):
        return (samples.graphs(161, 300) + samples.graphs(162, 30, 12, 9)
                + [once(rows)[0] for rows in samples.programs(163, 60, 60)]
                + [lean(once(rows)[0]) for rows in samples.programs(164, 60, 60)])

    def check_block(self, graph, block, found, told):
        params, rows, end = block
        wanted = []
        for row in rows:
            ahead, made, behind = plain_row(row, found)
            wanted += ahead + [made] + behind
        if end[0] == "if":
            ahead, end, behind = plain_row(end, found)
            wanted += ahead
        self.assertEqual(told[0][:len(wanted)], wanted)
        self.assertEqual(told[1], end[:2] if end[0] == "go" else end)
        pairs = [] if end[0] != "go" else [(found[param], found[arg]) for param, arg in zip(graph[end[1]][0], end[2])
                                           if param in found]
        samples.check_moves(self, pairs, told[0][len(wanted):])

    def test_against_the_words(self):
        for graph in samples.graphs(165, 100) + [once(rows)[0] for rows in samples.programs(166, 30, 30)]:
            for boxes in range(2, 10):
                found = homes(graph, boxes)
                if max([number for kind, number in found.values()], default=0) > 11:
                    continue
                told = boxed(graph, boxes)
                self.assertEqual(len(told), len(graph))
                for block, answer in zip(graph, told):
                    self.assertIs(type(answer), tuple)
                    self.check_block(graph, block, found, answer)

    def test_runs(self):
        rng = random.Random(167)
        for graph in self.graphs():
            for boxes in range(2, 10):
                inputs, turns = samples.random_inputs(rng), rng.randint(0, 9)
                self.assertEqual(samples.run_blocks(boxed(graph, boxes), inputs, turns),
                                 samples.run_blocks(graph, inputs, turns), (graph, boxes, inputs, turns))

    def test_boxes_below_the_number_of_boxes(self):
        box_spots = {"put": (1,), "do": (1, 3, 4), "take": (1,), "tell": (1,), "turn": (), "move": (1, 2),
                     "pull": (1,), "push": (2,), "if": (1,), "go": (), "end": ()}
        for graph in samples.graphs(168, 150):
            for boxes in range(2, 10):
                for rows, end in boxed(graph, boxes):
                    for row in rows + [end]:
                        self.assertTrue(all(0 <= row[spot] < boxes for spot in box_spots[row[0]]))

    def test_answers_are_new_and_nothing_is_changed(self):
        for graph in samples.graphs(169, 40):
            for boxes in (2, 3, 9):
                samples.check_answers(self, boxed, graph, boxes)


if __name__ == "__main__":
    unittest.main()
