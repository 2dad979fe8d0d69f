"""Webs: machines that are joined by wires, each of which holds at most one turning on the way."""

from burstshop.errors import InvalidBurst, InvalidParts, InvalidStanding, LimitExceeded, TwoSenders, Unlike
from burstshop.machines import Machine, fed, is_standing, need_sound


class Web:
    """One to three sound machines; an output of one is joined to the inputs of others that have its name."""

    def __init__(self, parts):
        need_parts(parts)
        taken = [name for part in parts for name in part.inputs]
        given = [name for part in parts for name in part.outputs]
        self.parts = tuple(parts)
        self.inputs = tuple([name for at, name in enumerate(taken) if name not in given and name not in taken[:at]])
        self.outputs = tuple([name for name in given if name not in taken])

    def begin(self):
        """Return the standing at the beginning."""
        return (tuple([(0, ()) for _ in self.parts]), ())


def react(web, standing, burst):
    """Tell what happens behind a burst in all orders of arrivals, as a tuple that begins with a word."""
    if not is_quiet(web, standing):
        raise InvalidStanding()
    need_burst(web, burst)
    first = (standing[0], tuple(sorted(wires_of(web, burst))))
    faults = faults_behind(web, first)
    for word in ("choke", "overrun", "race"):
        if word in faults:
            return (word, faults[word])
    return ended(web, first)


def stands_for(web, machine):
    """Return None if the web does what the machine does, else the first bursts that it does not do, and its answer."""
    need_sound(machine)
    if sorted(web.inputs) != sorted(machine.inputs) or sorted(web.outputs) != sorted(machine.outputs):
        raise Unlike()
    start = (web.begin(), 0)
    rows = {start: []}
    waiting = [start]
    while waiting:
        pair = waiting.pop(0)
        for state, burst, flips, after in machine.arcs:
            if state == pair[1]:
                row = [*rows[pair], burst]
                answer = react(web, pair[0], burst)
                if answer[0] != "rest" or answer[2] != {name: 1 for name in flips}:
                    return (row, answer)
                other = (answer[1], after)
                if other not in rows:
                    rows[other] = row
                    waiting.append(other)
    return None


def need_parts(parts):
    """Refuse what is not a sequence of 1 to 3 sound machines, no two of them with an output of the same name."""
    if not isinstance(parts, (list, tuple)) or not 1 <= len(parts) <= 3:
        raise InvalidParts(-1)
    for at, part in enumerate(parts):
        if not isinstance(part, Machine):
            raise InvalidParts(at)
    for part in parts:
        need_sound(part)
    given = []
    for part in parts:
        for name in part.outputs:
            if name in given:
                raise TwoSenders(name)
        given.extend(part.outputs)


def is_quiet(web, thing):
    """Tell whether thing is a quiet standing of reached states."""
    if not isinstance(thing, tuple) or len(thing) != 2 or thing[1] != ():
        return False
    if not isinstance(thing[0], tuple) or len(thing[0]) != len(web.parts):
        return False
    return all([is_standing(part, standing) for part, standing in zip(web.parts, thing[0])])


def need_burst(web, burst):
    """Refuse what is not a sequence of one or more different inputs of the web."""
    if not isinstance(burst, (list, tuple)) or not burst:
        raise InvalidBurst(-1)
    for at, name in enumerate(burst):
        if name not in web.inputs or name in burst[:at]:
            raise InvalidBurst(at)


def wires_of(web, names):
    """List the wires of some names: tuples of the name and of the receiver's index."""
    return [(name, at) for name in names for at, part in enumerate(web.parts) if name in part.inputs]


def arrival(web, standing, turning):
    """Let a turning on the way arrive.

    Return a tuple of the word "choke", "overrun" or "on", the standing behind it, and the outputs that flip.
    """
    standings, turnings = standing
    name, at = turning
    answer = fed(web.parts[at], standings[at], name)
    if answer is None:
        return ("choke", standing, ())
    now, flips = answer
    others = [other for other in turnings if other != turning]
    new = wires_of(web, flips)
    if any([wire in others for wire in new]):
        return ("overrun", standing, ())
    return ("on", (standings[:at] + (now,) + standings[at + 1:], tuple(sorted(others + new))), flips)


def is_race(web, standing):
    """Tell whether two turnings on the way to one part would each make a burst whole."""
    standings, turnings = standing
    ready = []
    for name, at in turnings:
        answer = fed(web.parts[at], standings[at], name)
        if answer is not None and answer[0][1] == ():
            ready.append(at)
    return len(ready) != len(set(ready))


def faults_behind(web, first):
    """Return a dict from the words of what goes wrong in some order to a shortest row of turnings for each."""
    faults = {}
    # How each standing is come to first: the standing ahead of it, and the turning that arrives there.
    ways_to = {first: None}
    waiting = [first]
    while waiting:
        standing = waiting.pop(0)
        if is_race(web, standing):
            faults.setdefault("race", row_to(ways_to, standing))
        for turning in standing[1]:
            word, after, _ = arrival(web, standing, turning)
            if word != "on":
                faults.setdefault(word, row_to(ways_to, standing) + [turning])
            elif after not in ways_to:
                ways_to[after] = (standing, turning)
                waiting.append(after)
                if len(ways_to) > 4000:
                    raise LimitExceeded(4000)
    return faults


def row_to(ways_to, standing):
    """List the turnings that lead to a standing."""
    row = []
    way = ways_to[standing]
    while way is not None:
        row.append(way[1])
        way = ways_to[way[0]]
    return row[::-1]


def ended(web, first):
    """Tell how a reaction ends in which nothing goes wrong, so that all orders end alike."""
    standing = first
    seen = {first: True}
    row = []
    turns = {}
    while standing[1]:
        turning = standing[1][0]
        _, standing, flips = arrival(web, standing, turning)
        row.append(turning)
        for name in flips:
            if name in web.outputs:
                turns[name] = turns.get(name, 0) + 1
        if standing in seen:
            return ("endless", row)
        seen[standing] = True
    return ("rest", standing, turns)
