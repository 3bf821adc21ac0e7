"""Homes get what other homes hold, all at once, by rows done one by one."""

KEEPING_HAND = ("box", 0)
PASSING_HAND = 1


def rows_between(to, source):
    if to[0] == "box" and source[0] == "box":
        return [("move", to[1], source[1])]
    if to[0] == "box":
        return [("pull", to[1], source[1])]
    if source[0] == "box":
        return [("push", to[1], source[1])]
    return [("pull", PASSING_HAND, source[1]), ("push", to[1], PASSING_HAND)]


def free_rows(left):
    # A home that no other home still waits for may be written; each such row may free the next one.
    rows = []
    wanted = list(left.values())
    free = [to for to in left if to not in wanted]
    while len(free) > 0:
        to = free.pop()
        source = left.pop(to)
        rows.extend(rows_between(to, source))
        wanted.remove(source)
        if source in left and source not in wanted:
            free.append(source)
    return rows


def opening(left):
    # A slot that gets what a slot holds passes a hand anyhow: opened there, its ring costs no row more.
    for to, source in left.items():
        if to[0] == "slot" and source[0] == "slot":
            return to
    return list(left)[0]


def in_turn(pairs):
    left = dict([(to, source) for to, source in pairs if to != source])
    rows = free_rows(left)
    # Each home that is left stands in a ring: what one of them gets is kept in a hand, which frees the others.
    while len(left) > 0:
        to = opening(left)
        rows.extend(rows_between(KEEPING_HAND, left[to]))
        left[to] = KEEPING_HAND
        rows.extend(free_rows(left))
    return rows
