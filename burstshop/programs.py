"""Programs: what a circuit is to wait for and to answer, and the machine that does it."""

from burstshop.errors import BadProgram, Choke, InvalidName, LimitExceeded, UnknownName
from burstshop.machines import Machine, is_name, is_part


def need_program(thing):
    """Refuse what is not a program."""
    path = wrong_part(thing, (), [])
    if path is not None:
        raise BadProgram(path)


def openings(rest):
    """List what may come next: bursts, flips, and what is still to be done behind them."""
    if not rest:
        return []
    first = rest[0]
    behind = rest[1:]
    if first[0] == "stop":
        return []
    if first[0] == "do":
        return [(first[1], first[2], behind)]
    if first[0] == "row":
        return openings(first[1] + behind)
    if first[0] == "loop":
        return openings((first[1], first) + behind)
    return [opening for part in first[1] for opening in openings((part,) + behind)]


def machine_of(program, inputs, outputs):
    """Return the machine whose states are what can be still to be done."""
    need_program(program)
    bare = Machine(inputs, outputs, ())
    need_known(program, bare)
    rests = [(program,)]
    arcs = []
    at = 0
    while at < len(rests):
        rows = openings(rests[at])
        for burst, flips, rest in rows:
            if rest not in rests:
                rests.append(rest)
            arcs.append((at, burst, flips, rests.index(rest)))
        if len(rests) > 8:
            raise LimitExceeded(8)
        at += 1
    if len(arcs) > 16:
        raise LimitExceeded(16)
    return Machine(bare.inputs, bare.outputs, arcs)


def told(program, names):
    """List the flips behind each of the names that arrive, by the program alone."""
    need_program(program)
    if not isinstance(names, (list, tuple)) or not all([isinstance(name, str) for name in names]):
        raise InvalidName(None)
    rest = (program,)
    arrived = []
    answers = []
    for at, name in enumerate(names):
        rows = openings(rest)
        if name in arrived or not any([is_part([*arrived, name], burst) for burst, _, _ in rows]):
            raise Choke(at)
        arrived.append(name)
        whole = [row for row in rows if len(row[0]) == len(arrived) and is_part(arrived, row[0])]
        if whole:
            answers.append(whole[0][1])
            rest = whole[0][2]
            arrived = []
        else:
            answers.append(())
    return answers


def wrong_part(thing, path, dos):
    """Return the path of the first wrong node, or None; path is that of thing, dos has those of the dos so far."""
    if not is_form(thing) or len(path) > 5:
        return path
    if thing[0] == "do":
        dos.append(path)
        return path if len(dos) > 16 else None
    parts = parts_of_program(thing)
    for at, part in enumerate(parts):
        wrong = wrong_part(part, (*path, at), dos)
        if wrong is not None:
            return wrong
        ending = thing[0] == "loop" or (thing[0] == "row" and at < len(parts) - 1)
        if ending and not can_end(part):
            return (*path, at)
    return None


def is_form(thing):
    """Tell whether thing has one of the five forms, whatever its parts are."""
    if not isinstance(thing, tuple) or not 1 <= len(thing) <= 3 or not isinstance(thing[0], str):
        return False
    head = thing[0]
    if len(thing) == 1:
        return head == "stop"
    if len(thing) == 3:
        return head == "do" and are_names(thing[1]) and len(thing[1]) > 0 and are_names(thing[2])
    if head in ("row", "choose"):
        least, most = (1, 8) if head == "row" else (2, 4)
        return isinstance(thing[1], tuple) and least <= len(thing[1]) <= most
    return head == "loop"


def are_names(thing):
    """Tell whether thing is a tuple of different names."""
    if not isinstance(thing, tuple):
        return False
    return all([is_name(name) and name not in thing[:at] for at, name in enumerate(thing)])


def parts_of_program(program):
    """Return the parts of a program as a tuple, which is empty for a do and a stop."""
    if program[0] == "loop":
        return (program[1],)
    return program[1] if program[0] in ("row", "choose") else ()


def can_end(program):
    """Tell whether a program can end."""
    if program[0] == "row":
        return can_end(program[1][-1])
    if program[0] == "choose":
        return any([can_end(part) for part in program[1]])
    return program[0] == "do"


def dos_of(program):
    """List the dos of a program in their order."""
    if program[0] == "do":
        return [program]
    return [do for part in parts_of_program(program) for do in dos_of(part)]


def need_known(program, machine):
    """Refuse a program with a name that is not an input in a burst or not an output in flips."""
    for _, burst, flips in dos_of(program):
        for names, known in ((burst, machine.inputs), (flips, machine.outputs)):
            for name in names:
                if name not in known:
                    raise UnknownName(name)
