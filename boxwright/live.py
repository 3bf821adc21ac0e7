"""What is live at the points of a graph."""

from boxwright.joins import arrivals_of, further_blocks, given, used
from boxwright.ways import back_from, found_from


def row_at(graph, point):
    block = graph[point[0]]
    return block[1][point[1]] if point[1] < len(block[1]) else block[2]


def points_ahead(graph, arrivals, point, value):
    # None where what lies between gives the value: ahead of that it is not live.
    if point[1] > 0:
        ahead = (point[0], point[1] - 1)
        return [] if given(row_at(graph, ahead)) == value else [ahead]
    if value in graph[point[0]][0]:
        return []
    return [(block, len(graph[block][1])) for block in arrivals[point[0]]]


def points_behind(graph, point, value):
    row = row_at(graph, point)
    if point[1] < len(graph[point[0]][1]):
        return [] if given(row) == value else [(point[0], point[1] + 1)]
    return [(block, 0) for block in further_blocks(row) if value not in graph[block][0]]


def points_of(graph):
    found = []
    for number, block in enumerate(graph):
        found.extend([(number, place) for place in range(len(block[1]) + 1)])
    return found


def live_values(graph):
    # From each use back to what gives the value, so that each point is come to once for each value live there.
    arrivals = arrivals_of(graph)
    live = dict([(point, {}) for point in points_of(graph)])
    for use in points_of(graph):
        for value in used(row_at(graph, use)):
            fresh = [use]
            while len(fresh) > 0:
                point = fresh.pop()
                if value not in live[point]:
                    live[point][value] = True
                    fresh.extend(points_ahead(graph, arrivals, point, value))
    return live


def points(graph):
    live = live_values(graph)
    told = [[] for block in graph]
    for point in points_of(graph):
        told[point[0]].append(sorted(live[point]))
    return told


def is_point(graph, block, place):
    return 0 <= block < len(graph) and 0 <= place <= len(graph[block][1])


def way_to(graph, block, place, value):
    # Where there is no point, nothing is live.
    if not is_point(graph, block, place):
        return None
    found = found_from([(block, place)], lambda point: points_behind(graph, point, value))
    for point in found:
        # The nearest stand first, so the first use is one of a shortest way.
        if value in used(row_at(graph, point)):
            return list(reversed(back_from(found, point)))
    return None


def fullest(graph):
    told = (0, 0, 0)
    for number, block in enumerate(points(graph)):
        for place, live in enumerate(block):
            if len(live) > told[0]:
                told = (len(live), number, place)
    return told
