"""Blocks laid one behind the other: the last rows."""


def straight_behind(end):
    # The block that needs no jump if it can stand right behind.
    if end[0] == "go":
        return end[1]
    if end[0] == "if":
        return end[3]
    return None


def least_not_laid(blocks, places):
    for number in range(len(blocks)):
        if number not in places:
            return number
    return None


def rows_for_end(end, places):
    # Jumps name blocks here, since the places of those still to be laid are not known.
    rows = []
    if end[0] == "if":
        rows.append(("if", end[1], end[2]))
    if end[0] == "end":
        rows.append(end)
    elif straight_behind(end) in places:
        rows.append(("go", straight_behind(end)))
    return rows


def by_place(row, places):
    if row[0] == "go":
        return ("go", places[row[1]])
    if row[0] == "if":
        return ("if", row[1], places[row[2]])
    return row


def laid(blocks):
    places = {}
    rows = []
    number = 0
    while number is not None:
        places[number] = len(rows)
        end = blocks[number][1]
        rows.extend(blocks[number][0])
        rows.extend(rows_for_end(end, places))
        number = straight_behind(end)
        if number is None or number in places:
            number = least_not_laid(blocks, places)
    return [by_place(row, places) for row in rows]
