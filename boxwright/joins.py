"""What rows and ends of a graph give and use, and how its blocks are joined: by ways, and by args for params."""

from boxwright.ways import comes


def given(row):
    return row[1] if row[0] in ("set", "do", "take") else None


def used(row):
    # Rows and ends alike: their words differ, so one asks both the same way.
    if row[0] == "do":
        return [row[3], row[4]]
    if row[0] in ("tell", "if"):
        return [row[1]]
    if row[0] == "go":
        return list(row[2])
    return []


def further_blocks(end):
    if end[0] == "go":
        return [end[1]]
    if end[0] == "if":
        return [end[2], end[3]]
    return []


def ways_of(graph):
    return [further_blocks(block[2]) for block in graph]


def arrivals_of(graph):
    return comes(ways_of(graph))


def handed_on(graph, end):
    # Each param with its arg; an if goes to blocks without params.
    if end[0] == "go":
        return list(zip(graph[end[1]][0], end[2]))
    return []
