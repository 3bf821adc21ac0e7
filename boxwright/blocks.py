"""The blocks of a program, and where they go on."""

from boxwright.programs import need_program, parts_of_kind


def beginnings(rows):
    found = {0: True, len(rows): True}
    for at, row in enumerate(rows):
        for place in parts_of_kind(row, "place"):
            found[place] = True
        if row[0] in ("if", "go", "end"):
            found[at + 1] = True
    return sorted(found)


def cut(rows):
    need_program(rows)
    firsts = beginnings(rows)
    # The last block is its own: behind it no beginning is left to pair it with.
    return list(zip(firsts, firsts[1:])) + [(len(rows), len(rows))]


def goes_on(rows, span, numbers):
    if span[0] == len(rows):
        return []
    last = rows[span[1] - 1]
    if last[0] == "if":
        return [numbers[last[2]], numbers[span[1]]]
    if last[0] == "go":
        return [numbers[last[1]]]
    if last[0] == "end":
        return []
    return [numbers[span[1]]]


def goes(rows):
    spans = cut(rows)
    numbers = dict([(span[0], number) for number, span in enumerate(spans)])
    return [goes_on(rows, span, numbers) for span in spans]
