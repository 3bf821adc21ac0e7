"""Programs, lists of rows over names, and the refusal of what is none."""

from boxwright.deeds import WORDS, is_number
from boxwright.errors import BadProgram

MOST_ROWS = 60
MOST_NAMES = 12
MOST_LETTERS = 6
LETTERS = "abcdefghijklmnopqrstuvwxyz"

# One table of the kinds behind each first word, so that form, names and places are all read off the same rows.
FORMS = {
    "set": ("name", "number"),
    "copy": ("name", "name"),
    "do": ("name", "word", "name", "name"),
    "take": ("name",),
    "tell": ("name",),
    "turn": (),
    "if": ("name", "place"),
    "go": ("place",),
    "end": (),
}


def is_name(thing):
    if not isinstance(thing, str) or not 1 <= len(thing) <= MOST_LETTERS:
        return False
    return all([sign in LETTERS for sign in thing])


def is_word(thing):
    return isinstance(thing, str) and thing in WORDS


def is_place(thing, last_place):
    return is_number(thing) and 0 <= thing <= last_place


def is_part(kind, thing, last_place):
    if kind == "name":
        return is_name(thing)
    if kind == "number":
        return is_number(thing)
    if kind == "word":
        return is_word(thing)
    return is_place(thing, last_place)


def is_row(row, last_place):
    if not isinstance(row, tuple) or len(row) == 0:
        return False
    # What is no text may have no hash, so it is not looked up.
    if not isinstance(row[0], str) or row[0] not in FORMS:
        return False
    kinds = FORMS[row[0]]
    if len(row) != len(kinds) + 1:
        return False
    return all([is_part(kind, thing, last_place) for kind, thing in zip(kinds, row[1:])])


def parts_of_kind(row, wanted):
    return [thing for kind, thing in zip(FORMS[row[0]], row[1:]) if kind == wanted]


def jumps_back_badly(rows, at):
    # Rows up to this one have their form by now; those behind it perhaps not, so they are not looked at.
    for place in parts_of_kind(rows[at], "place"):
        if place <= at and rows[place][0] != "turn":
            return True
    return False


def with_names_of(row, names):
    met = list(names)
    for name in parts_of_kind(row, "name"):
        if name not in met:
            met.append(name)
    return met


def need_program(rows):
    if not isinstance(rows, list) or len(rows) > MOST_ROWS:
        raise BadProgram(None)
    names = []
    for at, row in enumerate(rows):
        if not is_row(row, len(rows)) or jumps_back_badly(rows, at):
            raise BadProgram(at)
        names = with_names_of(row, names)
        if len(names) > MOST_NAMES:
            raise BadProgram(at)
    return names
