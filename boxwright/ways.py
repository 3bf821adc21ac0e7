"""Ways between blocks: what is reached, what comes where, and gates."""


def found_from(starts, further):
    # Each thing found with the one ahead of it, None for the starts. The nearest stand first: others lean on that.
    found = {}
    queue = []
    for start in starts:
        if start not in found:
            found[start] = None
            queue.append(start)
    done = 0
    while done < len(queue):
        thing = queue[done]
        done += 1
        for other in further(thing):
            if other not in found:
                found[other] = thing
                queue.append(other)
    return found


def back_from(found, thing):
    chain = [thing]
    while found[chain[-1]] is not None:
        chain.append(found[chain[-1]])
    return chain


def aheads(ways):
    return found_from([0], lambda block: ways[block])


def reached(ways):
    found = aheads(ways)
    return [list(reversed(back_from(found, block))) if block in found else None for block in range(len(ways))]


def comes(ways):
    told = [[] for block in ways]
    for block in sorted(aheads(ways)):
        for further in ways[block]:
            told[further].append(block)
    return told


def meeting(told, ranks, one, other):
    # A gate is nearer to block 0 than what lies behind it, so the further one of both steps back.
    while one != other:
        if ranks[one] > ranks[other]:
            one = told[one]
        else:
            other = told[other]
    return one


def gate_so_far(told, ranks, arrivals):
    gate = None
    for block in arrivals:
        # A block that has no gate yet says nothing so far; it is asked again in the next round.
        if ranks[block] == 0 or told[block] is not None:
            gate = block if gate is None else meeting(told, ranks, gate, block)
    return gate


def gates(ways):
    near = list(aheads(ways))
    ranks = dict([(block, rank) for rank, block in enumerate(near)])
    arrivals = comes(ways)
    told = [None for block in ways]
    settled = False
    while not settled:
        settled = True
        for block in near[1:]:
            gate = gate_so_far(told, ranks, arrivals[block])
            if told[block] != gate:
                told[block] = gate
                settled = False
    return told
