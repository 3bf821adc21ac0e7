"""How many beats the slow machine needs for rows over boxes."""


def things_read(row):
    if row[0] == "do":
        return [("box", row[3]), ("box", row[4])]
    if row[0] == "tell":
        return [("box", row[1])]
    if row[0] in ("move", "push"):
        return [("box", row[2])]
    if row[0] == "pull":
        return [("slot", row[2])]
    return []


def things_written(row):
    if row[0] in ("tell", "turn"):
        return []
    if row[0] == "push":
        return [("slot", row[1])]
    return [("box", row[1])]


def wait_of(row):
    if row[0] == "take":
        return 2
    if row[0] == "pull":
        return 3
    if row[0] == "do" and row[2] == "times":
        return 3
    if row[0] == "do" and row[2] == "part":
        return 5
    return 1


class Timing:
    # Waits are told from the next beat on, not from the first one: so like rows behind need like beats.
    def __init__(self):
        self.next_beat = 0
        self.waits = {}
        self.most = 0


def timing_behind(timing, row):
    stall = max([timing.waits.get(thing, 0) for thing in things_read(row) + things_written(row)] + [0])
    behind = Timing()
    behind.next_beat = timing.next_beat + stall + 1
    behind.most = max(timing.most, timing.next_beat + stall + wait_of(row))
    waits = [(thing, wait - stall - 1) for thing, wait in timing.waits.items()]
    waits.extend([(thing, wait_of(row) - 1) for thing in things_written(row)])
    behind.waits = dict([(thing, wait) for thing, wait in waits if wait > 0])
    return behind


def beats(rows):
    timing = Timing()
    for row in rows:
        timing = timing_behind(timing, row)
    return timing.most
