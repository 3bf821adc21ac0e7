"""Which rows are bound, and rows in an order that needs fewer beats."""

from boxwright.beats import Timing, things_read, things_written, timing_behind, wait_of


def is_outward(row):
    return row[0] in ("take", "tell", "turn") or row[0] == "do" and row[2] == "part"


def share(some, others):
    return any([thing in others for thing in some])


def are_bound(one, other):
    if is_outward(one) and is_outward(other):
        return True
    if share(things_written(one), things_read(other) + things_written(other)):
        return True
    return share(things_written(other), things_read(one))


def bound(rows):
    told = []
    for i, one in enumerate(rows):
        told.extend([(i, j) for j in range(i + 1, len(rows)) if are_bound(one, rows[j])])
    return told


def timings_of(rows):
    timings = [Timing()]
    for row in rows:
        timings.append(timing_behind(timings[-1], row))
    return timings


def mosts_from(rows, timings):
    # For each place the greatest begin with its wait of the rows from there on.
    mosts = [0 for timing in timings]
    for place in range(len(rows) - 1, -1, -1):
        begin = timings[place + 1].next_beat - 1
        mosts[place] = max(mosts[place + 1], begin + wait_of(rows[place]))
    return mosts


def beats_from(rows, timings, mosts, timing, place):
    # Where the waits are as they were, all rows behind are shifted alike, and need not be gone through.
    while place < len(rows) and timing.waits != timings[place].waits:
        timing = timing_behind(timing, rows[place])
        place += 1
    if place == len(rows):
        return timing.most
    return max(timing.most, mosts[place] + timing.next_beat - timings[place].next_beat)


def improved(rows):
    # The rows behind a pair are still those handed in, so the timings of these serve for every pair.
    timings = timings_of(rows)
    mosts = mosts_from(rows, timings)
    told = list(rows)
    fewest = timings[-1].most
    timing = Timing()
    for place in range(len(rows) - 1):
        one = told[place]
        other = told[place + 1]
        exchanged = timing_behind(timing_behind(timing, other), one)
        needed = beats_from(rows, timings, mosts, exchanged, place + 2)
        if needed < fewest and not are_bound(one, other):
            told[place] = other
            told[place + 1] = one
            fewest = needed
        timing = timing_behind(timing, told[place])
    return told


def ordered(rows):
    told = list(rows)
    fewer = improved(told)
    # Each exchange has fewer beats, so this comes to an end, and then no exchange is left that has.
    while fewer != told:
        told = fewer
        fewer = improved(told)
    return told
