import unittest

import samples
from boxwright.homes import homes
from boxwright.lean import lean
from boxwright.live import points
from boxwright.once import once
from boxwright.spills import spilled
from boxwright.ways import gates


def plain_order(graph, block=0):
    told = [block]
    for other, gate in enumerate(gates(samples.graph_ways(graph))):
        if gate == block:
            told += plain_order(graph, other)
    return told


def live_behind_giving(graph):
    """Each value with what is live right behind its giving, in the order of [15]."""
    told, live = [], points(graph)
    for block in plain_order(graph):
        params, rows, end = graph[block]
        told += [(param, live[block][0]) for param in params]
        told += [(samples.given_by(row), live[block][place + 1]) for place, row in enumerate(rows)
                 if samples.given_by(row) is not None]
    return told


def plain_homes(graph, boxes):
    told = {}
    for value, live in live_behind_giving(graph):
        if value in live:
            kind, number = ("slot", 0) if value in spilled(graph, boxes) else ("box", 2)
            while (kind, number) in [told[other] for other in live if other in told]:
                number += 1
            told[value] = (kind, number)
    return told


def many_graphs():
    return (samples.graphs(141, 120) + samples.graphs(142, 20, 12, 9)
            + [lean(once(rows)[0]) for rows in samples.programs(143, 25, 60)])


class TestHomes(unittest.TestCase):
    def test_without_values(self):
        self.assertEqual(homes([([], [], ("end",))], 2), {})

    def test_a_value_that_is_not_live_behind_its_giving_has_none(self):
        self.assertEqual(homes([([], [("take", 1), ("set", 2, 0), ("tell", 2)], ("end",))], 9), {2: ("box", 2)})

    def test_the_least_box_that_is_free(self):
        graph = [([], [("set", 9, 1), ("set", 8, 1), ("tell", 9), ("set", 7, 1), ("set", 6, 1), ("tell", 8),
                       ("tell", 7), ("tell", 6)], ("end",))]
        self.assertEqual(homes(graph, 9), {9: ("box", 2), 8: ("box", 3), 7: ("box", 2), 6: ("box", 4)})

    def test_a_row_may_give_into_the_box_of_what_it_uses_last(self):
        graph = [([], [("set", 3, 1), ("do", 4, "sum", 3, 3), ("tell", 4)], ("end",))]
        self.assertEqual(homes(graph, 9), {3: ("box", 2), 4: ("box", 2)})

    def test_slots_for_the_spilled_ones(self):
        graph = [([], [("set", 5, 1), ("set", 4, 1), ("set", 3, 1), ("tell", 4), ("tell", 3), ("tell", 5)], ("end",))]
        self.assertEqual(homes(graph, 2), {5: ("slot", 0), 4: ("slot", 1), 3: ("slot", 2)})
        self.assertEqual(homes(graph, 3), {5: ("slot", 0), 4: ("box", 2), 3: ("slot", 1)})
        self.assertEqual(homes(graph, 4), {5: ("slot", 0), 4: ("box", 2), 3: ("box", 3)})
        self.assertEqual(homes(graph, 5), {5: ("box", 2), 4: ("box", 3), 3: ("box", 4)})

    def test_params_ahead_of_rows_in_their_order(self):
        graph = [([], [("set", 0, 1)], ("go", 1, (0, 0, 0))),
                 ([7, 3, 5], [("set", 1, 1), ("tell", 1), ("tell", 5), ("tell", 7)], ("end",))]
        self.assertEqual(homes(graph, 9), {0: ("box", 2), 7: ("box", 2), 5: ("box", 3), 1: ("box", 4)})

    def test_the_order_of_the_tree_of_gates_is_not_that_of_the_blocks(self):
        # Block 2 is the gate of block 1, so that 20 has its home ahead of 10.
        graph = [([], [("take", 0)], ("go", 2, ())),
                 ([], [("take", 10), ("tell", 10), ("tell", 20)], ("end",)),
                 ([], [("take", 20)], ("go", 1, ()))]
        self.assertEqual(homes(graph, 9), {20: ("box", 2), 10: ("box", 3)})
        self.assertEqual(list(homes(graph, 9)), [20, 10])

    def test_all_beneath_a_block_straight_behind_it(self):
        graph = [([], [("take", 0)], ("if", 0, 1, 2)), ([], [("take", 1)], ("if", 1, 3, 4)),
                 ([], [("take", 2), ("tell", 2)], ("end",)), ([], [("take", 3), ("tell", 3)], ("end",)),
                 ([], [("take", 4), ("tell", 4)], ("end",))]
        self.assertEqual(list(homes(graph, 9)), [0, 1, 3, 4, 2])

    def test_many_graphs_against_the_words(self):
        for graph in many_graphs():
            for boxes in range(2, 10):
                told = homes(graph, boxes)
                self.assertEqual(told, plain_homes(graph, boxes), (graph, boxes))
                self.assertEqual(list(told), [value for value, live in live_behind_giving(graph) if value in live])

    def test_no_two_that_are_live_at_one_point_share_one_and_no_more_than_need_be(self):
        for graph in many_graphs():
            for boxes in range(2, 10):
                told, out = homes(graph, boxes), set(spilled(graph, boxes))
                most = {"box": 0, "slot": 0}
                for live in [live for block in points(graph) for live in block]:
                    held = [told[value] for value in live]
                    self.assertEqual(len(held), len(set(held)))
                    for kind in most:
                        most[kind] = max(most[kind], len([home for home in held if home[0] == kind]))
                self.assertEqual({value for value in told if told[value][0] == "slot"}, out)
                for kind, number in told.values():
                    first = {"box": 2, "slot": 0}[kind]
                    self.assertTrue(first <= number < first + most[kind])
                    self.assertTrue(kind == "slot" or number < boxes)

    def test_answers_are_new_and_nothing_is_changed(self):
        for graph in samples.graphs(144, 40):
            for boxes in (2, 3, 9):
                samples.check_answers(self, homes, graph, boxes)


if __name__ == "__main__":
    unittest.main()
