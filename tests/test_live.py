import unittest

import samples
from boxwright.lean import lean
from boxwright.live import fullest, points, way_to
from boxwright.once import once


def all_points(graph):
    return [(block, place) for block, (params, rows, end) in enumerate(graph) for place in range(len(rows) + 1)]


def next_points(graph, point):
    """Each point that comes next, with all values that are given between."""
    block, place = point
    params, rows, end = graph[block]
    if place < len(rows):
        return [((block, place + 1), {samples.given_by(rows[place])})]
    return [((further, 0), set(graph[further][0])) for further in samples.end_ways(end)]


def uses_at(graph, point):
    params, rows, end = graph[point[0]]
    return samples.used_by((rows + [end])[point[1]])


def plain_steps(graph, point, value):
    """How many points a shortest way to a use of the value has, or None, by the words of [12]."""
    seen, last, count = {point}, {point}, 1
    while last:
        if any(value in uses_at(graph, each) for each in last):
            return count
        last = {further for each in last for further, given in next_points(graph, each) if value not in given} - seen
        seen |= last
        count += 1
    return None


def many_graphs():
    return samples.graphs(121, 250) + [once(rows)[0] for rows in samples.programs(122, 60)]


class TestPoints(unittest.TestCase):
    def test_rows_of_one_block(self):
        graph = [([], [("set", 9, 1), ("take", 2), ("do", 5, "sum", 9, 2), ("turn",), ("tell", 5), ("tell", 9)],
                  ("end",))]
        self.assertEqual(points(graph), [[[], [9], [2, 9], [5, 9], [5, 9], [9], []]])

    def test_a_value_that_nobody_uses_is_live_nowhere(self):
        self.assertEqual(points([([], [("set", 1, 1), ("take", 0)], ("end",))]), [[[], [], []]])

    def test_without_rows(self):
        self.assertEqual(points([([], [], ("end",))]), [[[]]])

    def test_an_if_uses_its_value_at_its_end(self):
        graph = [([], [("take", 3)], ("if", 3, 1, 2)), ([], [], ("end",)), ([], [("tell", 3)], ("end",))]
        self.assertEqual(points(graph), [[[], [3]], [[]], [[3], []]])

    def test_args_for_params_that_nobody_uses(self):
        graph = [([], [("set", 4, 1), ("set", 2, 2)], ("go", 1, (4, 2))), ([8, 7], [], ("end",))]
        self.assertEqual(points(graph), [[[], [4], [2, 4]], [[]]])

    def test_params_are_given_ahead_of_the_first_point(self):
        graph = [([], [("set", 4, 1)], ("go", 1, (4, 4))), ([8, 7], [("turn",), ("tell", 7)], ("end",))]
        self.assertEqual(points(graph), [[[], [4]], [[7], [7], []]])

    def test_a_param_that_is_handed_to_itself_round_a_ring(self):
        graph = [([], [("take", 0)], ("go", 1, (0, 0))),
                 ([1, 2], [("turn",)], ("if", 2, 2, 3)),
                 ([], [("take", 5)], ("go", 1, (1, 5))),
                 ([], [], ("end",))]
        self.assertEqual(points(graph), [[[], [0]], [[1, 2], [1, 2]], [[1], [1, 5]], [[]]])

    def test_a_value_from_ahead_of_a_ring_is_live_all_round(self):
        graph = [([], [("take", 7)], ("go", 1, ())),
                 ([], [("turn",), ("tell", 7), ("take", 3)], ("if", 3, 2, 3)),
                 ([], [("turn",)], ("go", 1, ())),
                 ([], [], ("end",))]
        self.assertEqual(points(graph), [[[], [7]], [[7], [7], [7], [3, 7]], [[7], [7]], [[]]])

    def test_an_if_both_of_whose_ways_lead_to_one_block(self):
        graph = [([], [("take", 7), ("take", 6)], ("if", 6, 1, 1)), ([], [("tell", 7)], ("end",))]
        self.assertEqual(points(graph), [[[], [7], [6, 7]], [[7], []]])

    def test_against_the_words(self):
        for graph in many_graphs():
            values = sorted(samples.all_values(graph))
            wanted = [[[value for value in values if plain_steps(graph, (block, place), value) is not None]
                       for place in range(len(rows) + 1)] for block, (params, rows, end) in enumerate(graph)]
            self.assertEqual(points(graph), wanted, graph)

    def test_long_rows(self):
        rows = [("set", 0, 1)] + [("turn",)] * 2000 + [("tell", 0)]
        self.assertEqual(points([([], rows, ("end",))]), [[[]] + [[0]] * 2001 + [[]]])


class TestWayTo(unittest.TestCase):
    def check(self, graph, point, value):
        steps = plain_steps(graph, point, value)
        way = way_to(graph, point[0], point[1], value)
        if steps is None:
            self.assertIsNone(way)
            return
        self.assertIs(type(way), list)
        self.assertEqual((way[0], len(way)), (point, steps))
        self.assertIn(value, uses_at(graph, way[-1]))
        for one, other in zip(way, way[1:]):
            self.assertTrue(any(further == other and value not in given for further, given in next_points(graph, one)))

    def test_where_it_is_used_at_once(self):
        graph = [([], [("set", 4, 1), ("tell", 4)], ("end",))]
        self.assertEqual(way_to(graph, 0, 1, 4), [(0, 1)])
        self.assertIsNone(way_to(graph, 0, 0, 4))
        self.assertIsNone(way_to(graph, 0, 2, 4))

    def test_over_blocks(self):
        graph = [([], [("take", 7)], ("if", 7, 1, 2)), ([], [("turn",)], ("go", 2, ())),
                 ([], [("turn",), ("tell", 7)], ("end",))]
        self.assertEqual(way_to(graph, 1, 0, 7), [(1, 0), (1, 1), (2, 0), (2, 1)])
        self.assertEqual(way_to(graph, 0, 1, 7), [(0, 1)])

    def test_the_shorter_of_two_ways(self):
        for yes, no in ((1, 2), (2, 1)):
            graph = [([], [("take", 7), ("take", 8)], ("if", 8, yes, no)),
                     ([], [("turn",), ("turn",), ("tell", 7)], ("end",)), ([], [("turn",), ("tell", 7)], ("end",))]
            self.assertEqual(way_to(graph, 0, 2, 7), [(0, 2), (2, 0), (2, 1)])

    def test_a_way_that_comes_to_what_gives_it_is_none(self):
        graph = [([], [("take", 0)], ("go", 1, (0,))), ([1], [("turn",), ("tell", 1), ("take", 2)], ("if", 2, 2, 3)),
                 ([], [], ("go", 1, (2,))), ([], [], ("end",))]
        self.assertIsNone(way_to(graph, 2, 0, 1))
        self.assertIsNone(way_to(graph, 1, 2, 1))
        self.assertIsNone(way_to(graph, 1, 1, 2))
        self.assertEqual(way_to(graph, 1, 0, 1), [(1, 0), (1, 1)])

    def test_a_number_that_is_no_value(self):
        graph = [([], [("set", 5, 7), ("tell", 5)], ("end",))]
        for number in (0, 1, 7, -1, 10 ** 30):
            for place in (0, 1, 2):
                self.assertIsNone(way_to(graph, 0, place, number))

    def test_where_there_is_no_point(self):
        graph = [([], [("set", 5, 7)], ("if", 5, 1, 1)), ([], [], ("end",))]
        for block, place in ((0, 2), (0, -1), (-2, 1), (2, 0), (1, 1)):
            self.assertIsNone(way_to(graph, block, place, 5))

    def test_against_the_words(self):
        for graph in samples.graphs(123, 150) + [once(rows)[0] for rows in samples.programs(124, 25)]:
            for point in all_points(graph):
                for value in samples.all_values(graph):
                    self.check(graph, point, value)


class TestFullest(unittest.TestCase):
    def test_where_nothing_is_live(self):
        self.assertEqual(fullest([([], [], ("end",))]), (0, 0, 0))
        self.assertEqual(fullest([([], [("turn",), ("take", 3)], ("go", 1, ())), ([], [], ("end",))]), (0, 0, 0))

    def test_the_first_of_several(self):
        graph = [([], [("set", 4, 1), ("tell", 4), ("set", 5, 1), ("tell", 5)], ("end",))]
        self.assertEqual(fullest(graph), (1, 0, 1))
        graph = [([], [("set", 4, 1)], ("go", 2, (4, 4))), ([], [("tell", 4), ("take", 8)], ("if", 8, 3, 3)),
                 ([1, 2], [("turn",), ("tell", 1), ("tell", 2)], ("go", 1, ())), ([], [("tell", 8)], ("end",))]
        self.assertEqual(fullest(graph), (3, 2, 0))

    def test_many_graphs(self):
        for graph in many_graphs():
            told = points(graph)
            most = max(len(live) for block in told for live in block)
            first = [point for point in all_points(graph) if len(told[point[0]][point[1]]) == most][0]
            self.assertEqual(fullest(graph), (most,) + first)


class TestAnswers(unittest.TestCase):
    def test_answers_are_new_and_nothing_is_changed(self):
        for graph in samples.graphs(125, 40) + [lean(once(rows)[0]) for rows in samples.programs(126, 20)]:
            samples.check_answers(self, points, graph)
            samples.check_answers(self, fullest, graph)
            for point in all_points(graph)[:6]:
                for value in samples.all_values(graph)[:6]:
                    samples.check_answers(self, way_to, graph, point[0], point[1], value)


if __name__ == "__main__":
    unittest.main()
