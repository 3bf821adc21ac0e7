import unittest

import samples
from boxwright.lean import lean
from boxwright.live import points
from boxwright.once import once
from boxwright.spills import spilled

# 5 is live at the most points, then 4 and 3 alike.
THREE = [([], [("set", 5, 1), ("set", 4, 1), ("set", 3, 1), ("tell", 4), ("tell", 3), ("tell", 5)], ("end",))]


def plain_spilled(graph, boxes):
    """The words of [14], with a new look at all points for each choice."""
    chosen = []
    live_at = [set(live) for block in points(graph) for live in block]
    while True:
        full = [live - set(chosen) for live in live_at if len(live - set(chosen)) > boxes - 2]
        if not full:
            return chosen
        counts = {value: sum(value in live for live in live_at) for value in full[0]}
        chosen.append(min(value for value in full[0] if counts[value] == max(counts.values())))


def many_graphs():
    return (samples.graphs(131, 300) + samples.graphs(132, 40, 12, 9)
            + [lean(once(rows)[0]) for rows in samples.programs(133, 60, 60)])


class TestSpilled(unittest.TestCase):
    def test_none_where_none_need_be(self):
        self.assertEqual(spilled(THREE, 5), [])
        self.assertEqual(spilled(THREE, 9), [])
        self.assertEqual(spilled([([], [], ("end",))], 2), [])
        self.assertEqual(spilled([([], [("set", 1, 1), ("turn",)], ("end",))], 2), [])

    def test_the_one_that_is_live_at_the_most_points(self):
        self.assertEqual(points(THREE), [[[], [5], [4, 5], [3, 4, 5], [3, 5], [5], []]])
        self.assertEqual(spilled(THREE, 4), [5])

    def test_of_several_the_least(self):
        self.assertEqual(spilled(THREE, 3), [5, 3])

    def test_in_the_order_of_choosing(self):
        self.assertEqual(spilled(THREE, 2), [5, 4, 3])

    def test_the_first_point_by_block(self):
        graph = [([], [("take", 8), ("take", 9)], ("go", 2, ())),
                 ([], [("take", 1), ("tell", 1), ("tell", 8)], ("end",)),
                 ([], [("tell", 9), ("turn",), ("turn",), ("turn",), ("turn",)], ("go", 1, ()))]
        self.assertEqual(points(graph)[0], [[], [8], [8, 9]])
        self.assertEqual(spilled(graph, 3), [8])
        self.assertEqual(spilled(graph, 2), [8, 9, 1])

    def test_points_where_chosen_ones_are_live_count_too(self):
        graph = [([], [("set", 1, 0), ("set", 2, 0), ("tell", 1), ("set", 3, 0), ("set", 4, 0), ("tell", 2),
                       ("tell", 3), ("tell", 4), ("tell", 3)], ("end",))]
        self.assertEqual(points(graph)[0],
                         [[], [1], [1, 2], [2], [2, 3], [2, 3, 4], [3, 4], [3, 4], [3], []])
        self.assertEqual(spilled(graph, 3), [2, 3])
        self.assertEqual(spilled(graph, 4), [3])

    def test_many_graphs_against_the_words(self):
        for graph in many_graphs():
            for boxes in range(2, 10):
                self.assertEqual(spilled(graph, boxes), plain_spilled(graph, boxes), (graph, boxes))

    def test_with_two_boxes_every_value_that_is_live_somewhere(self):
        for graph in many_graphs():
            live = {value for block in points(graph) for each in block for value in each}
            self.assertEqual(set(spilled(graph, 2)), live)

    def test_boxes_somewhat_beyond_the_bounds(self):
        self.assertEqual(spilled(THREE, 12), [])
        self.assertEqual(spilled(THREE, 1), spilled(THREE, 2))

    def test_answers_are_new_and_nothing_is_changed(self):
        for graph in samples.graphs(134, 40):
            for boxes in (2, 3, 9):
                samples.check_answers(self, spilled, graph, boxes)


if __name__ == "__main__":
    unittest.main()
