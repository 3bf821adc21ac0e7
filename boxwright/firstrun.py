"""A run of a program, and its outcome."""

from boxwright.deeds import is_number, reckoned
from boxwright.errors import BadRun, ByNought
from boxwright.programs import need_program

MOST_TURNS = 10000


class Run:
    def __init__(self, inputs, turns):
        self.inputs = list(inputs)
        self.turns_left = turns
        self.at = 0
        self.holds = {}
        self.told = []
        self.takes = 0
        self.word = None


def held(run, name):
    return run.holds.get(name, 0)


def taken(run):
    run.takes += 1
    if run.takes > len(run.inputs):
        return 0
    return run.inputs[run.takes - 1]


def make_turn(run):
    if run.turns_left == 0:
        run.word = "dry"
    run.turns_left -= 1


def do_row(run, row):
    # The next place stands ahead of the row, so that a jump has the last word on it.
    run.at += 1
    if row[0] == "set":
        run.holds[row[1]] = row[2]
    elif row[0] == "copy":
        run.holds[row[1]] = held(run, row[2])
    elif row[0] == "do":
        run.holds[row[1]] = reckoned(row[2], held(run, row[3]), held(run, row[4]))
    elif row[0] == "take":
        run.holds[row[1]] = taken(run)
    elif row[0] == "tell":
        run.told.append(held(run, row[1]))
    elif row[0] == "turn":
        make_turn(run)
    elif row[0] == "if":
        run.at = row[2] if held(run, row[1]) != 0 else run.at
    elif row[0] == "go":
        run.at = row[1]
    else:
        run.word = "done"


def outcome(rows, inputs, turns):
    run = Run(inputs, turns)
    try:
        while run.word is None:
            # Behind the last row stands an end that is not written.
            do_row(run, rows[run.at] if run.at < len(rows) else ("end",))
    except ByNought:
        run.word = "nought"
    return (run.word, run.told, run.takes)


def need_run(inputs, turns):
    if not isinstance(inputs, list) or not all([is_number(thing) for thing in inputs]):
        raise BadRun("inputs that are no list of numbers")
    if not is_number(turns) or not 0 <= turns <= MOST_TURNS:
        raise BadRun("turns that are no whole number from 0 to 10000")


def first_run(rows, inputs, turns):
    need_program(rows)
    need_run(inputs, turns)
    return outcome(rows, inputs, turns)
