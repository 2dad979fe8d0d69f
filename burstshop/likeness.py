"""Likeness: which machine does all that another one does, and the least machine that does the same."""

from burstshop.errors import Unlike
from burstshop.machines import Machine, entries, need_sound


def does(one, other):
    """Return None if one does all that other does, else the first row of bursts for which it does not."""
    need_sound(one)
    need_sound(other)
    if one.inputs != other.inputs or one.outputs != other.outputs:
        raise Unlike()
    # Behind each row of bursts both machines are in some state; what follows depends on these two alone.
    seen = {(0, 0): True}
    waiting = [([], 0, 0)]
    while waiting:
        row, own, theirs = waiting.pop(0)
        for _, burst, flips, after in sorted_arcs(other, theirs):
            arc = arc_with(one, own, burst)
            if arc is None or arc[2] != flips:
                return [*row, burst]
            pair = (arc[3], after)
            if pair not in seen:
                seen[pair] = True
                waiting.append(([*row, burst], arc[3], after))
    return None


def least(machine):
    """Return the machine with the fewest states that is alike, numbered in the order in which they are met."""
    leaders = leaders_of(machine)
    states = [0]
    arcs = []
    at = 0
    while at < len(states):
        rows = sorted_arcs(machine, states[at])
        for _, burst, flips, after in rows:
            leader = leaders[after]
            if leader not in states:
                states.append(leader)
            arcs.append((at, burst, flips, states.index(leader)))
        at += 1
    return Machine(machine.inputs, machine.outputs, arcs)


def sorted_arcs(machine, state):
    """List the arcs of a state, ordered by the positions of the inputs in their bursts."""
    rows = [([machine.inputs.index(name) for name in arc[1]], arc) for arc in machine.arcs if arc[0] == state]
    return [arc for _, arc in sorted(rows)]


def arc_with(machine, state, burst):
    """Return the arc of a state with a burst, or None if there is none."""
    for arc in machine.arcs:
        if arc[0] == state and arc[1] == burst:
            return arc
    return None


def leaders_of(machine):
    """Return a dict from each reached state to the first one that is met of its class."""
    leaders = first_alike(entries(machine))
    while True:
        # States stay in one class if their arcs are the same and lead to the same classes.
        traits = {}
        for state, leader in leaders.items():
            arcs = [(burst, flips, leaders[after]) for _, burst, flips, after in sorted_arcs(machine, state)]
            traits[state] = (leader, tuple(arcs))
        finer = first_alike(traits)
        if finer == leaders:
            return leaders
        leaders = finer


def first_alike(traits):
    """Return a dict from each state to the first one with the same traits."""
    first = {}
    leaders = {}
    for state, trait in traits.items():
        leaders[state] = first.setdefault(trait, state)
    return leaders
