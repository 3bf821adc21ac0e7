"""Programs and last rows as texts."""

from boxwright.errors import BadProgram, NoText
from boxwright.programs import need_program

FIGURES = "0123456789"

# More than any number within the bounds has: what is longer is left a text, which is no number.
MOST_FIGURES = 10


def line_of(row):
    return " ".join([str(part) for part in row])


def written(rows):
    return "\n".join([line_of(row) for row in rows])


def part_read(part):
    figures = part[1:] if part.startswith("-") else part
    if 0 < len(figures) <= MOST_FIGURES and all([sign in FIGURES for sign in figures]):
        return int(part)
    return part


def row_read(line):
    return tuple([part_read(part) for part in line.split(" ")])


def rows_read(text):
    if text == "":
        return []
    return [row_read(line) for line in text.split("\n")]


def spelt(rows):
    need_program(rows)
    return written(rows)


def unspelt(text):
    if not isinstance(text, str):
        raise NoText("no text")
    rows = rows_read(text)
    try:
        need_program(rows)
    except BadProgram:
        raise NoText("a text that writes no program") from None
    # Reading is lenient about noughts ahead and the like; only what would be written the same is a program's text.
    if written(rows) != text:
        raise NoText("a program written otherwise")
    return rows


def spelt_last(last):
    return written(last)
