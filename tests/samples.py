"""Programs, ways and graphs for the tests, made by a fixed chance, and plain runs of what is made of them."""

import random

from boxwright.deeds import reckoned
from boxwright.errors import ByNought

NAMES = ["a", "b", "c", "d", "e", "f", "g", "h", "i", "j", "k", "l"]
WORDS = ("sum", "less", "times", "part", "below", "alike")
MOST_STEPS = 400


# Programs

def random_row(rng, word, names, at, count, turns):
    if word == "set":
        return ("set", rng.choice(names), rng.choice((0, 0, 1, 2, 3, -1, 7, 2147483647, -2147483648)))
    if word == "copy":
        return ("copy", rng.choice(names), rng.choice(names))
    if word == "do":
        deed = rng.choice(WORDS + ("sum", "less", "below"))
        return ("do", rng.choice(names), deed, rng.choice(names), rng.choice(names))
    if word in ("take", "tell"):
        return (word, rng.choice(names))
    places = list(range(at + 1, count + 1)) + 3 * [place for place in turns if place <= at]
    if word == "if":
        return ("if", rng.choice(names), rng.choice(places))
    if word == "go":
        return ("go", rng.choice(places))
    return (word,)


def random_program(rng, most=24):
    count = rng.randint(0, most)
    names = rng.sample(NAMES, rng.choice((1, 2, 3, 4, 4, 5, 8, 12)))
    plenty = ["set"] * 3 + ["copy"] * 3 + ["do"] * 6 + ["take"] * 3 + ["tell"] * 3 + ["turn"] * 3
    words = [rng.choice(plenty + ["if"] * rng.randint(0, 10) + ["go"] * 2 + ["end"]) for at in range(count)]
    turns = [at for at, word in enumerate(words) if word == "turn"]
    return [random_row(rng, word, names, at, count, turns) for at, word in enumerate(words)]


def programs(seed, count, most=24):
    rng = random.Random(seed)
    return [random_program(rng, most) for index in range(count)]


def random_inputs(rng):
    return [rng.choice((0, 0, 1, 1, 2, 3, -1, -5, 10, 2147483647, -2147483648)) for index in range(rng.randint(0, 8))]


# Ways

def random_ways(rng, most=9):
    count = rng.randint(1, most)
    return [[rng.randrange(count) for way in range(rng.choice((0, 1, 1, 2, 2, 3)))] for block in range(count)]


def found_without(ways, left_out):
    """The blocks to which ways lead from block 0 that do not come to the one left out."""
    found, fresh = set(), [0]
    while fresh:
        block = fresh.pop()
        if block != left_out and block not in found:
            found.add(block)
            fresh.extend(ways[block])
    return found


def on_every_way(ways):
    """For each reached block the set of the blocks that lie on every way to it, itself too."""
    return {block: {other for other in found_without(ways, None) if other == block
                    or block not in found_without(ways, other)} for block in found_without(ways, None)}


# Graphs

def end_ways(end):
    return {"go": list(end[1:2]), "if": list(end[2:4]), "end": []}[end[0]]


def graph_ways(graph):
    return [end_ways(block[-1]) for block in graph]


def given_by(row):
    return row[1] if row[0] in ("set", "do", "take") else None


def used_by(row):
    return {"set": (), "take": (), "turn": (), "end": (), "do": row[3:5], "tell": row[1:2], "if": row[1:2],
            "go": row[2] if row[0] == "go" else ()}[row[0]]


def all_values(graph):
    return [value for params, rows, end in graph for value in
            params + [given_by(row) for row in rows if given_by(row) is not None]]


def random_shape(rng, most):
    count = rng.randint(2, most)
    ends = []
    for block in range(count):
        word = "go" if block == 0 and rng.random() < 0.6 else rng.choice(("go", "go", "if", "if", "end"))
        ways = [rng.randrange(1, count) for way in range({"go": 1, "if": 2, "end": 0}[word])]
        if word == "if" and rng.random() < 0.15:
            ways[1] = ways[0]
        ends.append((word, ways))
    kept = sorted(found_without([ways for word, ways in ends], None))
    anew = {block: number for number, block in enumerate(kept)}
    return [(ends[block][0], [anew[way] for way in ends[block][1]]) for block in kept]


def random_rows(rng, fresh, known, most):
    rows = []
    for index in range(rng.randint(0, most)):
        word = rng.choice(("set", "do", "do", "do", "take", "tell", "turn"))
        if word in ("do", "tell") and not known:
            word = "set"
        if word == "tell":
            rows.append(("tell", rng.choice(known)))
        elif word == "turn":
            rows.append(("turn",))
        else:
            value = fresh.pop()
            rows.append({"set": ("set", value, rng.choice((0, 1, 2, -3))), "take": ("take", value)}.get(word) or (
                "do", value, rng.choice(WORDS), rng.choice(known), rng.choice(known)))
            known.append(value)
    return rows


def random_graph(rng, most=7, most_rows=5):
    """A graph of the right form, its values by any numbers."""
    shape = random_shape(rng, most)
    ways = [further for word, further in shape]
    bare = {0} | {way for word, further in shape if word == "if" for way in further}
    fresh = rng.sample(range(1000), 400)
    params = [[fresh.pop() for index in range(rng.choice((0, 1, 1, 2, 3)))] if block not in bare else []
              for block in range(len(shape))]
    graph, known = [None] * len(shape), {}
    above = on_every_way(ways)
    for block in sorted(above, key=lambda number: len(above[number])):
        known[block] = [value for other in sorted(above[block] - {block})
                        for value in params[other] + [given_by(row) for row in graph[other][1]]
                        if value is not None] + params[block]
        rows = [("set", fresh.pop(), rng.choice((0, 1, 5)))] if block == 0 else []
        known[block] += [row[1] for row in rows]
        rows += random_rows(rng, fresh, known[block], most_rows)
        graph[block] = (params[block], rows, None)
    for block, (word, further) in enumerate(shape):
        end = ("end",)
        if word == "go":
            end = ("go", further[0], tuple(rng.choice(known[block]) for param in params[further[0]]))
        if word == "if":
            end = ("if", rng.choice(known[block]), further[0], further[1])
        graph[block] = graph[block][:2] + (end,)
    return graph


def graphs(seed, count, most=7, most_rows=5):
    rng = random.Random(seed)
    return [random_graph(rng, most, most_rows) for index in range(count)]


def check_graph(test, graph):
    """Fails where it is no graph."""
    ways = graph_ways(graph)
    test.assertTrue(all(type(block) is tuple and len(block) == 3 for block in graph))
    test.assertTrue(all(type(params) is list and type(rows) is list for params, rows, end in graph))
    test.assertEqual(graph[0][0], [])
    test.assertTrue(all(0 < way < len(graph) for further in ways for way in further))
    above = on_every_way(ways)
    test.assertEqual(sorted(above), list(range(len(graph))))
    values = all_values(graph)
    test.assertEqual(len(values), len(set(values)))
    test.assertTrue(all(type(value) is int and value >= 0 for value in values))
    given = [set(params) | {given_by(row) for row in rows} for params, rows, end in graph]
    for block, (params, rows, end) in enumerate(graph):
        known = set(params).union(*[given[other] for other in above[block] - {block}])
        for row in rows + [end]:
            check_graph_row(test, row)
            test.assertTrue(set(used_by(row)) <= known, (block, row))
            known.add(given_by(row))
        if end[0] == "go":
            test.assertEqual(len(end[2]), len(graph[end[1]][0]))
            test.assertIs(type(end[2]), tuple)
        if end[0] == "if":
            test.assertEqual((graph[end[2]][0], graph[end[3]][0]), ([], []))


def check_graph_row(test, row):
    sizes = {"set": 3, "do": 5, "take": 2, "tell": 2, "turn": 1, "go": 3, "if": 4, "end": 1}
    test.assertIs(type(row), tuple)
    test.assertEqual(len(row), sizes[row[0]])


class Machine:
    """What is common to all runs: inputs, turns, telling, and what is held."""

    def __init__(self, inputs, turns):
        self.inputs, self.turns, self.told, self.takes, self.holds = inputs, turns, [], 0, {}

    def take(self):
        self.takes += 1
        return self.inputs[self.takes - 1] if self.takes <= len(self.inputs) else 0

    def outcome(self, word):
        return (word, self.told, self.takes)

    def do(self, row):
        """Whether the row could be done."""
        holds = self.holds
        if row[0] == "turn":
            self.turns -= 1
            return self.turns >= 0
        if row[0] == "tell":
            self.told.append(holds.get(row[1], 0))
        elif row[0] == "do":
            holds[row[1]] = reckoned(row[2], holds.get(row[3], 0), holds.get(row[4], 0))
        elif row[0] in ("set", "put"):
            holds[row[1]] = row[2]
        elif row[0] == "take":
            holds[row[1]] = self.take()
        elif row[0] == "move":
            holds[row[1]] = holds.get(row[2], 0)
        elif row[0] == "pull":
            holds[row[1]] = holds.get(("slot", row[2]), 0)
        else:
            holds["slot", row[1]] = holds.get(row[2], 0)
        return True


def run_blocks(blocks, inputs, turns, seen=None):
    """The outcome of a graph or of boxed blocks; the word is "long" if it does not end soon."""
    machine, at = Machine(inputs, turns), 0
    for step in range(MOST_STEPS):
        if seen is not None:
            seen.append((at, dict(machine.holds)))
        try:
            for row in blocks[at][-2]:
                if not machine.do(row):
                    return machine.outcome("dry")
        except ByNought:
            return machine.outcome("nought")
        end = blocks[at][-1]
        if end[0] == "end":
            return machine.outcome("done")
        if end[0] == "if":
            at = end[2] if machine.holds.get(end[1], 0) != 0 else end[3]
            continue
        at = end[1]
        if len(end) == 3:
            machine.holds.update(zip(blocks[at][0], [machine.holds[arg] for arg in end[2]]))
    return machine.outcome("long")


# Moves

def rings(pairs):
    """The rings of homes, each of which gets what the next one holds."""
    source = {to: held for to, held in pairs if to != held}
    found = set()
    for start in source:
        seen, home = [], start
        while home in source and home not in seen:
            seen.append(home)
            home = source[home]
        if home == start:
            found.add(frozenset(seen))
    return found


def count_of_moves(pairs):
    """How many rows there are just to be, by the words of [16]."""
    two_slots = {to for to, held in pairs if to[0] == "slot" and held[0] == "slot"}
    count = sum(2 if to in two_slots else 1 for to, held in pairs if to != held)
    return count + sum(1 for ring in rings(pairs) if not ring & two_slots)


def check_moves(test, pairs, rows):
    test.assertEqual(len(rows), count_of_moves(pairs), (pairs, rows))
    test.assertTrue(all(type(row) is tuple and len(row) == 3 and row[0] in ("move", "pull", "push") for row in rows))
    homes = [("box", number) for number in range(2, 12)] + [("slot", number) for number in range(12)]
    machine = Machine([], 0)
    for home in homes:
        machine.holds[home[1] if home[0] == "box" else home] = home
    for row in rows:
        machine.do(row)
    held = {home: machine.holds[home[1] if home[0] == "box" else home] for home in homes}
    test.assertEqual(held, {home: dict(pairs).get(home, home) for home in homes}, (pairs, rows))


# Rows over boxes

def random_box_row(rng, boxes=9, slots=6):
    word = rng.choice(("put", "do", "do", "do", "do", "take", "tell", "turn", "move", "pull", "pull", "push", "push"))
    one, other, more = [rng.randrange(boxes) for index in range(3)]
    slot = rng.randrange(slots)
    return {"put": ("put", one, rng.choice((0, 1, -1, 9))), "do": ("do", one, rng.choice(WORDS), other, more),
            "take": ("take", one), "tell": ("tell", one), "turn": ("turn",), "move": ("move", one, other),
            "pull": ("pull", one, slot), "push": ("push", slot, one)}[word]


def random_box_rows(rng, most, boxes=9, slots=6):
    return [random_box_row(rng, boxes, slots) for index in range(rng.randint(0, most))]


def turnless_ring(blocks):
    """Whether some ring of ways has no block with a turn."""
    bare = {block for block, (rows, end) in enumerate(blocks) if ("turn",) not in rows}
    ways = {block: [way for way in end_ways(blocks[block][1]) if way in bare] for block in bare}
    while any(not further for further in ways.values()):
        ways = {block: further for block, further in ways.items() if further}
        ways = {block: [way for way in further if way in ways] for block, further in ways.items()}
    return bool(ways)


def random_boxed(rng, most=9):
    """Boxed blocks of any shape: some without rows, some not reached, some that jump to block 0."""
    count = rng.randint(1, most)
    blocks = []
    for block in range(count):
        word = rng.choice(("go", "go", "go", "if", "if", "end"))
        ways = [rng.randrange(count) for index in range(2)]
        if word == "if" and rng.random() < 0.2:
            ways[1] = ways[0]
        end = {"go": ("go", ways[0]), "if": ("if", rng.randrange(4), *ways), "end": ("end",)}[word]
        blocks.append((random_box_rows(rng, rng.choice((0, 0, 2, 4)), 4, 2), end))
    while turnless_ring(blocks):
        rng.choice(blocks)[0].append(("turn",))
    return blocks


def many_boxed(seed, count, most=9):
    rng = random.Random(seed)
    return [random_boxed(rng, most) for index in range(count)]


# Answers

def lists_within(thing):
    """Every list and dict within, each as often as it stands there."""
    if isinstance(thing, dict):
        return [thing] + [found for part in thing.values() for found in lists_within(part)]
    if isinstance(thing, (list, tuple)):
        found = [part for inner in thing for part in lists_within(inner)]
        return [thing] + found if isinstance(thing, list) else found
    return []


def spoil(thing):
    for found in lists_within(thing):
        found.clear()


def check_answers(test, function, *handed):
    """Fails where something handed in is changed, or lists and dicts are not new ones each time, each its own."""
    before = repr(handed)
    first = function(*handed)
    kept = repr(first)
    second = function(*handed)
    both = lists_within(first) + lists_within(second) + lists_within(handed)
    test.assertEqual(len({id(thing) for thing in both}), len(both))
    test.assertEqual(repr(handed), before)
    test.assertEqual(repr(second), kept)
    spoil(first)
    test.assertEqual(repr(second), kept)
    test.assertEqual(repr(handed), before)
    test.assertEqual(repr(function(*handed)), kept)
