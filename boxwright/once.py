"""The graph of a program, in which each value is given once."""

from boxwright.blocks import cut, goes
from boxwright.programs import need_program
from boxwright.ways import comes, reached

# Until all is settled a value is called by what gives it, since its number depends on which params stay.
FIRST = ("first",)

# At which spots of a row or an end values stand; a go is treated by itself.
VALUE_SPOTS = {"set": (1,), "do": (1, 3, 4), "take": (1,), "tell": (1,), "turn": (), "if": (1,), "end": ()}


class Draft:
    def __init__(self, rows, names):
        self.rows = rows
        self.names = names
        self.spans = cut(rows)
        self.ways = goes(rows)
        self.arrivals = comes(self.ways)
        self.shortest = reached(self.ways)
        self.order = [block for block, way in enumerate(self.shortest) if way is not None]
        self.begins = {}
        self.behinds = {}
        self.block_rows = {}
        self.stand_ins = {}


def param_of(block, name):
    return ("param", block, name)


def has_params(draft, block):
    # The graph's block 0 comes to the program's first block by one way more.
    return len(draft.arrivals[block]) + (1 if block == 0 else 0) > 1


def names_at_beginning(draft, block):
    if has_params(draft, block):
        return dict([(name, param_of(block, name)) for name in draft.names])
    if block == 0:
        return dict([(name, FIRST) for name in draft.names])
    return dict(draft.behinds[draft.arrivals[block][0]])


def row_over_values(row, value, holds):
    if row[0] == "do":
        return ("do", value, row[2], holds[row[3]], holds[row[4]])
    if row[0] == "set":
        return ("set", value, row[2])
    if row[0] == "take":
        return ("take", value)
    if row[0] == "tell":
        return ("tell", holds[row[1]])
    return row


def walk_block(draft, block):
    holds = names_at_beginning(draft, block)
    draft.begins[block] = dict(holds)
    given = []
    for place in range(draft.spans[block][0], draft.spans[block][1]):
        row = draft.rows[place]
        value = ("row", place)
        if row[0] in ("set", "do", "take", "tell", "turn"):
            given.append(row_over_values(row, value, holds))
        if row[0] in ("set", "do", "take"):
            holds[row[1]] = value
        if row[0] == "copy":
            holds[row[1]] = holds[row[2]]
    draft.block_rows[block] = given
    draft.behinds[block] = holds


def walk_blocks(draft):
    # Nearest first: what comes by one way alone to a block is then walked ahead of it.
    for block in sorted(draft.order, key=lambda number: len(draft.shortest[number])):
        walk_block(draft, block)


def settled_value(draft, value):
    while value in draft.stand_ins:
        value = draft.stand_ins[value]
    return value


def args_of(draft, block, name):
    args = [draft.behinds[ahead][name] for ahead in draft.arrivals[block]]
    if block == 0:
        args.append(FIRST)
    return [settled_value(draft, arg) for arg in args]


def drop_if_needless(draft, block, name):
    param = param_of(block, name)
    if param in draft.stand_ins:
        return False
    others = [arg for arg in args_of(draft, block, name) if arg != param]
    # Some way from the beginning brings in another value, so there is one at least.
    if others.count(others[0]) < len(others):
        return False
    draft.stand_ins[param] = others[0]
    return True


def drop_needless(draft):
    joins = [block for block in draft.order if has_params(draft, block)]
    dropped = True
    while dropped:
        dropped = False
        for block in joins:
            for name in draft.names:
                dropped = drop_if_needless(draft, block, name) or dropped


def names_kept(draft, block):
    if not has_params(draft, block):
        return []
    return [name for name in draft.names if param_of(block, name) not in draft.stand_ins]


def go_to(draft, block, holds):
    args = tuple([holds[name] for name in names_kept(draft, block)])
    return ("go", draft.order.index(block) + 1, args)


def if_way(draft, block, holds, put_in):
    go = go_to(draft, block, holds)
    if go[2] == ():
        return go[1]
    put_in.append(([], [], go))
    return len(draft.order) + len(put_in)


def end_of(draft, block, put_in):
    holds = draft.behinds[block]
    further = draft.ways[block]
    if len(further) == 2:
        asked = holds[draft.rows[draft.spans[block][1] - 1][1]]
        yes = if_way(draft, further[0], holds, put_in)
        no = if_way(draft, further[1], holds, put_in)
        return ("if", asked, yes, no)
    if len(further) == 1:
        return go_to(draft, further[0], holds)
    return ("end",)


def drafted_graph(draft):
    holds = dict([(name, FIRST) for name in draft.names])
    graph = [([], [("set", FIRST, 0)], go_to(draft, 0, holds))]
    put_in = []
    for block in draft.order:
        params = [param_of(block, name) for name in names_kept(draft, block)]
        graph.append((params, draft.block_rows[block], end_of(draft, block, put_in)))
    return graph + put_in


def numbers_of_values(graph):
    numbers = {}
    for block in graph:
        for param in block[0]:
            numbers[param] = len(numbers)
        for row in block[1]:
            if row[0] in ("set", "do", "take"):
                numbers[row[1]] = len(numbers)
    return numbers


def numbered(draft, numbers, value):
    return numbers[settled_value(draft, value)]


def row_by_numbers(draft, numbers, row):
    if row[0] == "go":
        return ("go", row[1], tuple([numbered(draft, numbers, arg) for arg in row[2]]))
    spots = VALUE_SPOTS[row[0]]
    return tuple([numbered(draft, numbers, part) if spot in spots else part for spot, part in enumerate(row)])


def block_by_numbers(draft, numbers, block):
    params = [numbers[param] for param in block[0]]
    rows = [row_by_numbers(draft, numbers, row) for row in block[1]]
    return (params, rows, row_by_numbers(draft, numbers, block[2]))


def holds_by_numbers(draft, numbers, holds):
    return dict([(name, numbered(draft, numbers, value)) for name, value in holds.items()])


def once(rows):
    draft = Draft(rows, need_program(rows))
    walk_blocks(draft)
    drop_needless(draft)
    graph = drafted_graph(draft)
    numbers = numbers_of_values(graph)
    begins = [(block, holds_by_numbers(draft, numbers, draft.begins[block])) for block in draft.order]
    return ([block_by_numbers(draft, numbers, block) for block in graph], dict(begins))
