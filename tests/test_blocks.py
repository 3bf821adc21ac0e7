import unittest

import samples
from boxwright.blocks import cut, goes
from boxwright.errors import BadProgram

TELL = ("tell", "a")
NO_PROGRAMS = ((None, None), ("", None), ((), None), ([("turn",)] * 61, None), ([["end"]], 0), ([TELL, ("go", 0)], 1),
               ([("turn",), ("go", 3)], 1), ([("tell", name) for name in samples.NAMES + ["m"]], 12))


def plain_blocks(rows):
    """The words of [6], place by place."""
    begins = [place for place in range(len(rows)) if place == 0
              or any(row[0] in ("if", "go") and row[-1] == place for row in rows)
              or rows[place - 1][0] in ("if", "go", "end")] + [len(rows)]
    return list(zip(begins, begins[1:] + [len(rows)]))


def plain_ways(rows):
    blocks = plain_blocks(rows)
    number = {first: index for index, (first, behind) in enumerate(blocks)}
    ways = []
    for index, (first, behind) in enumerate(blocks):
        last = rows[behind - 1] if index < len(blocks) - 1 else ("end",)
        ways.append({"if": lambda: [number[last[2]], index + 1], "go": lambda: [number[last[1]]],
                     "end": lambda: []}.get(last[0], lambda: [index + 1])())
    return ways


class TestBlocks(unittest.TestCase):
    def expect(self, rows, blocks, ways):
        self.assertEqual(cut(rows), blocks)
        self.assertEqual(goes(rows), ways)

    def test_without_rows(self):
        self.expect([], [(0, 0)], [[]])

    def test_without_jumps(self):
        self.expect([TELL], [(0, 1), (1, 1)], [[1], []])
        self.expect([TELL, ("turn",), TELL], [(0, 3), (3, 3)], [[1], []])

    def test_a_jump_to_the_first_place(self):
        self.expect([("turn",), TELL, ("go", 0)], [(0, 3), (3, 3)], [[0], []])
        self.expect([("turn",), TELL, ("if", "a", 0)], [(0, 3), (3, 3)], [[0, 1], []])

    def test_a_jump_into_the_midst(self):
        self.expect([TELL, ("turn",), TELL, ("if", "a", 1), TELL], [(0, 1), (1, 4), (4, 5), (5, 5)],
                    [[1], [1, 2], [3], []])
        self.expect([("go", 2), TELL, TELL, TELL], [(0, 1), (1, 2), (2, 4), (4, 4)], [[2], [2], [3], []])

    def test_a_jump_behind_the_last_row(self):
        self.expect([("if", "a", 2), TELL], [(0, 1), (1, 2), (2, 2)], [[2, 1], [2], []])
        self.expect([("go", 1)], [(0, 1), (1, 1)], [[1], []])

    def test_the_place_of_an_if_that_is_the_next_row(self):
        self.expect([("if", "a", 1), TELL], [(0, 1), (1, 2), (2, 2)], [[1, 1], [2], []])
        self.expect([("if", "a", 1)], [(0, 1), (1, 1)], [[1, 1], []])

    def test_ifs_in_a_row(self):
        self.expect([("if", "a", 3), ("if", "b", 1 + 2), ("if", "c", 3)], [(0, 1), (1, 2), (2, 3), (3, 3)],
                    [[3, 1], [3, 2], [3, 3], []])

    def test_goes_in_a_row(self):
        self.expect([("go", 2), ("go", 3), ("go", 3)], [(0, 1), (1, 2), (2, 3), (3, 3)], [[2], [3], [3], []])

    def test_ends_in_a_row(self):
        self.expect([("end",), ("end",)], [(0, 1), (1, 2), (2, 2)], [[], [], []])

    def test_the_last_block_where_nothing_leads(self):
        self.expect([TELL, ("end",)], [(0, 2), (2, 2)], [[], []])
        self.expect([("turn",), ("go", 0)], [(0, 2), (2, 2)], [[0], []])

    def test_blocks_that_nothing_leads_to_are_told(self):
        self.expect([("end",), TELL, ("go", 4), TELL], [(0, 1), (1, 3), (3, 4), (4, 4)], [[], [3], [3], []])

    def test_a_block_begins_behind_an_end_and_a_go_alone_too(self):
        self.expect([TELL, ("end",), TELL, TELL], [(0, 2), (2, 4), (4, 4)], [[], [2], []])

    def test_sixty_rows(self):
        rows = [("turn",)] * 59 + [("if", "a", 30)]
        self.expect(rows, [(0, 30), (30, 60), (60, 60)], [[1], [1, 2], []])

    def test_many_programs_against_a_plain_reckoning(self):
        for rows in samples.programs(61, 500, 40):
            self.expect(rows, plain_blocks(rows), plain_ways(rows))

    def test_kinds(self):
        rows = samples.programs(62, 1, 40)[0]
        self.assertIs(type(cut(rows)), list)
        self.assertEqual({type(block) for block in cut(rows)}, {tuple})
        self.assertEqual({type(further) for further in goes(rows)}, {list})

    def test_what_is_no_program_is_refused(self):
        for function in (cut, goes):
            for rows, at in NO_PROGRAMS:
                with self.subTest(repr((function, rows))):
                    with self.assertRaises(BadProgram) as caught:
                        function(rows)
                    self.assertEqual(caught.exception.at, at)

    def test_answers_are_new_and_nothing_is_changed(self):
        for rows in [[], [("end",), ("end",)]] + samples.programs(63, 30):
            samples.check_answers(self, cut, rows)
            samples.check_answers(self, goes, rows)


if __name__ == "__main__":
    unittest.main()
