"""Ways between blocks: what is reached, what comes where, and gates."""


def aheads(ways):
    # The nearest blocks stand first: later steps lean on each block standing behind its gate.
    found = {0: None}
    queue = [0]
    done = 0
    while done < len(queue):
        block = queue[done]
        done += 1
        for further in ways[block]:
            if further not in found:
                found[further] = block
                queue.append(further)
    return found


def reached(ways):
    told = [None for block in ways]
    for block, ahead in aheads(ways).items():
        told[block] = [block] if ahead is None else told[ahead] + [block]
    return told


def comes(ways):
    told = [[] for block in ways]
    for block in sorted(aheads(ways)):
        for further in ways[block]:
            told[further].append(block)
    return told


def meeting(told, ranks, one, other):
    # A gate is nearer to block 0 than what lies behind it, so the further one of both steps back.
    while one != other:
        if ranks[one] > ranks[other]:
            one = told[one]
        else:
            other = told[other]
    return one


def gate_so_far(told, ranks, arrivals):
    gate = None
    for block in arrivals:
        # A block that has no gate yet says nothing so far; it is asked again in the next round.
        if ranks[block] == 0 or told[block] is not None:
            gate = block if gate is None else meeting(told, ranks, gate, block)
    return gate


def gates(ways):
    near = list(aheads(ways))
    ranks = dict([(block, rank) for rank, block in enumerate(near)])
    arrivals = comes(ways)
    told = [None for block in ways]
    settled = False
    while not settled:
        settled = True
        for block in near[1:]:
            gate = gate_so_far(told, ranks, arrivals[block])
            if told[block] != gate:
                told[block] = gate
                settled = False
    return told
