"""The whole: from a program to its last rows, stage by stage."""

from boxwright.boxed import boxed
from boxwright.deeds import is_number
from boxwright.errors import BadBoxes
from boxwright.laid import laid
from boxwright.lean import lean
from boxwright.once import once
from boxwright.order import ordered
from boxwright.programs import need_program
from boxwright.thread import threaded

FEWEST_BOXES = 2
MOST_BOXES = 9


def need_boxes(boxes):
    if not is_number(boxes) or not FEWEST_BOXES <= boxes <= MOST_BOXES:
        raise BadBoxes("boxes that are no whole number from 2 to 9")


def built(rows, boxes):
    need_program(rows)
    need_boxes(boxes)
    graph = once(rows)[0]
    lean_graph = lean(graph)
    blocks = boxed(lean_graph, boxes)
    in_order = [(ordered(block[0]), block[1]) for block in blocks]
    return (graph, lean_graph, blocks, in_order, laid(threaded(in_order)))


def last_of(rows, boxes):
    return built(rows, boxes)[4]
