"""Which values have no room in the boxes."""

from boxwright.live import points

HANDS = 2


def how_often(live_at):
    counts = {}
    for live in live_at:
        for value in live:
            counts[value] = counts.get(value, 0) + 1
    return counts


def all_points(graph):
    told = []
    for block in points(graph):
        told.extend(block)
    return told


def spilled(graph, boxes):
    live_at = all_points(graph)
    counts = how_often(live_at)
    room = max(boxes - HANDS, 0)
    chosen = {}
    # A point that has room keeps it when more are chosen, so one walk over the points is enough.
    for live in live_at:
        left = [value for value in live if value not in chosen]
        while len(left) > room:
            worst = min(left, key=lambda value: (-counts[value], value))
            chosen[worst] = True
            left.remove(worst)
    return list(chosen)
