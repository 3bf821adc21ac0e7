"""Threaded blocks: jumps that lead on, and blocks that stand in others."""

from boxwright.joins import further_blocks
from boxwright.ways import comes, found_from


def led_on(blocks, number):
    # A bound on the steps, so that a ring of blocks without rows is no endless walk.
    for step in range(len(blocks)):
        block = blocks[number]
        if len(block[0]) > 0 or block[1][0] != "go":
            return number
        number = block[1][1]
    return number


def with_ways(end, told):
    if end[0] == "go":
        return ("go", told[end[1]])
    if end[0] == "if":
        return ("if", end[1], told[end[2]], told[end[3]])
    return end


def standing_within(ends):
    # The blocks, other than 0, to which just one way comes, and that a go.
    found = {}
    for block, arrivals in enumerate(comes([further_blocks(end) for end in ends])):
        if block > 0 and len(arrivals) == 1 and ends[arrivals[0]][0] == "go":
            found[block] = True
    return found


def joined_block(blocks, ends, within, number):
    rows = list(blocks[number][0])
    end = ends[number]
    while end[0] == "go" and end[1] in within:
        rows.extend(blocks[end[1]][0])
        end = ends[end[1]]
    return (rows, end)


def threaded(blocks):
    leads = [led_on(blocks, number) for number in range(len(blocks))]
    ends = [with_ways(block[1], leads) for block in blocks]
    within = standing_within(ends)
    found = sorted(found_from([0], lambda number: further_blocks(ends[number])))
    left = [number for number in found if number not in within]
    anew = dict([(number, place) for place, number in enumerate(left)])
    joined = [joined_block(blocks, ends, within, number) for number in left]
    return [(block[0], with_ways(block[1], anew)) for block in joined]
