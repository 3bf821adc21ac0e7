"""Which values of a graph are needed, and the graph without what nobody needs."""

from boxwright.joins import given, handed_on, used
from boxwright.ways import back_from, found_from


def is_parting(row):
    return row[0] == "do" and row[2] == "part"


def used_outright(graph):
    found = []
    for block in graph:
        for row in block[1] + [block[2]]:
            if row[0] in ("tell", "if") or is_parting(row):
                found.extend(used(row))
    return found


def made_of(graph):
    found = {}
    for block in graph:
        for row in block[1]:
            if given(row) is not None:
                found[given(row)] = used(row)
        for param, arg in handed_on(graph, block[2]):
            found.setdefault(param, []).append(arg)
    return found


def needed_for(graph):
    # Each needed value with one that it is needed for, None where it is used outright.
    makings = made_of(graph)
    return found_from(used_outright(graph), lambda value: makings[value])


def why(graph, value):
    found = needed_for(graph)
    return back_from(found, value) if value in found else None


def stays(row, needed):
    if row[0] == "set" or row[0] == "do" and not is_parting(row):
        return row[1] in needed
    return True


def lean_end(graph, needed, end):
    if end[0] != "go":
        return end
    return ("go", end[1], tuple([arg for param, arg in handed_on(graph, end) if param in needed]))


def lean_block(graph, needed, block):
    params = [param for param in block[0] if param in needed]
    rows = [row for row in block[1] if stays(row, needed)]
    return (params, rows, lean_end(graph, needed, block[2]))


def lean(graph):
    needed = needed_for(graph)
    return [lean_block(graph, needed, block) for block in graph]
