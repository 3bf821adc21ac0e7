"""Homes for values: boxes, and slots for those that are spilled."""

from boxwright.joins import given, ways_of
from boxwright.live import points
from boxwright.spills import HANDS, spilled
from boxwright.ways import gates


def tree_order(graph):
    beneath = [[] for block in graph]
    for block, gate in enumerate(gates(ways_of(graph))):
        if gate is not None:
            beneath[gate].append(block)
    order = []
    waiting = [0]
    while len(waiting) > 0:
        block = waiting.pop(0)
        order.append(block)
        # Ahead of all that waits, so that what is beneath a block comes straight behind it.
        waiting = beneath[block] + waiting
    return order


def least_free(kind, first, neighbours):
    number = first
    while (kind, number) in neighbours:
        number += 1
    return (kind, number)


def give_home(told, value, live, slotted):
    if value not in live:
        return
    neighbours = [told[other] for other in live if other in told]
    if value in slotted:
        told[value] = least_free("slot", 0, neighbours)
    else:
        told[value] = least_free("box", HANDS, neighbours)


def homes(graph, boxes):
    slotted = spilled(graph, boxes)
    live_at = points(graph)
    told = {}
    for number in tree_order(graph):
        block = graph[number]
        for param in block[0]:
            give_home(told, param, live_at[number][0], slotted)
        for place, row in enumerate(block[1]):
            if given(row) is not None:
                give_home(told, given(row), live_at[number][place + 1], slotted)
    return told
