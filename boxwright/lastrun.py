"""A run of last rows, and its outcome."""

from boxwright.firstrun import need_run, outcome


def as_row_over_names(row):
    # Boxes go by their numbers and slots by tuples, in the place of names, so that both runs are one.
    if row[0] == "put":
        return ("set", row[1], row[2])
    if row[0] == "move":
        return ("copy", row[1], row[2])
    if row[0] == "pull":
        return ("copy", row[1], ("slot", row[2]))
    if row[0] == "push":
        return ("copy", ("slot", row[1]), row[2])
    return row


def last_run(rows, inputs, turns):
    need_run(inputs, turns)
    return outcome([as_row_over_names(row) for row in rows], inputs, turns)
