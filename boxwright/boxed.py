"""The boxed graph: rows over boxes and slots in the place of rows over values."""

from boxwright.homes import homes
from boxwright.joins import given, handed_on, used
from boxwright.moves import in_turn


def hand_of(things, thing):
    # The place of the first one alike, so that one spilled value that is used twice needs one hand alone.
    return things.index(thing)


def pulls(found, things):
    return [("pull", hand, found[thing][1]) for hand, thing in enumerate(things)
            if found[thing][0] == "slot" and hand_of(things, thing) == hand]


def box_read(found, things, thing):
    home = found[thing]
    return home[1] if home[0] == "box" else hand_of(things, thing)


def box_written(found, value):
    home = found.get(value, ("none", 0))
    return home[1] if home[0] == "box" else 0


def pushes(found, value):
    home = found.get(value, ("none", 0))
    return [("push", home[1], 0)] if home[0] == "slot" else []


def row_over_boxes(found, row):
    boxes = [box_read(found, used(row), thing) for thing in used(row)]
    written = box_written(found, given(row))
    if row[0] == "set":
        return ("put", written, row[2])
    if row[0] == "do":
        return ("do", written, row[2], boxes[0], boxes[1])
    if row[0] == "take":
        return ("take", written)
    if row[0] == "tell":
        return ("tell", boxes[0])
    return row


def rows_for(found, row):
    return pulls(found, used(row)) + [row_over_boxes(found, row)] + pushes(found, given(row))


def rows_for_end(graph, found, end):
    if end[0] == "go":
        return in_turn([(found[param], found[arg]) for param, arg in handed_on(graph, end) if param in found])
    return pulls(found, used(end))


def end_over_boxes(found, end):
    if end[0] == "go":
        return ("go", end[1])
    if end[0] == "if":
        return ("if", box_read(found, used(end), end[1]), end[2], end[3])
    return end


def boxed_block(graph, found, block):
    rows = []
    for row in block[1]:
        rows.extend(rows_for(found, row))
    rows.extend(rows_for_end(graph, found, block[2]))
    return (rows, end_over_boxes(found, block[2]))


def boxed(graph, boxes):
    found = homes(graph, boxes)
    return [boxed_block(graph, found, block) for block in graph]
