"""Machines of bursts: in each state a machine waits for a burst of inputs and answers with turning outputs."""

from burstshop.errors import Choke, InvalidMachine, InvalidName, InvalidNumber, InvalidStanding, Unsound
from burstshop.signs import is_integer

LETTERS = "abcdefghijklmnopqrstuvwxyz"
DIGITS = "0123456789"


class Machine:
    """Inputs, outputs, and arcs (state, burst, flips, next)."""

    def __init__(self, inputs, outputs, arcs):
        need_names("inputs", inputs, 1, ())
        need_names("outputs", outputs, 0, inputs)
        need_arcs(arcs, inputs, outputs)
        self.inputs = tuple(inputs)
        self.outputs = tuple(outputs)
        self.arcs = tuple([ordered_arc(arc, inputs, outputs) for arc in arcs])

    def __eq__(self, other):
        if not isinstance(other, Machine):
            return False
        return self.inputs == other.inputs and self.outputs == other.outputs and self.arcs == other.arcs


def fault(machine):
    """Return the first fault of a machine, a word and the index of an arc, or None if it is sound."""
    for at, arc in enumerate(machine.arcs):
        others = [other for place, other in enumerate(machine.arcs) if place != at and other[0] == arc[0]]
        if any([is_part(arc[1], other[1]) for other in others]):
            return ("within", at)
    odd = walk(machine)[2]
    return ("entry", odd[0]) if odd else None


def met(machine):
    """List the reached states in the order in which they are met."""
    need_sound(machine)
    return list(walk(machine)[0])


def arcs_met(machine):
    """List the indexes of the reached arcs in the order in which they are gone through."""
    need_sound(machine)
    return walk(machine)[1]


def entries(machine):
    """Return a dict with the signs of inputs and outputs with which each reached state is entered."""
    need_sound(machine)
    return walk(machine)[0]


def feed(machine, standing, name):
    """Let an input turn: return the new standing and the flips, or None if the machine chokes."""
    need_sound(machine)
    if not is_standing(machine, standing):
        raise InvalidStanding()
    if not is_input(machine, name):
        raise InvalidName(name)
    return fed(machine, standing, name)


def follow(machine, names):
    """List the flips behind each of the inputs that are fed from the beginning on."""
    need_sound(machine)
    if not isinstance(names, (list, tuple)):
        raise InvalidName(None)
    for name in names:
        if not is_input(machine, name):
            raise InvalidName(name)
    standing = (0, ())
    answers = []
    for at, name in enumerate(names):
        answer = fed(machine, standing, name)
        if answer is None:
            raise Choke(at)
        standing = answer[0]
        answers.append(answer[1])
    return answers


def ways(machine, many):
    """Count the sequences of so many inputs that the machine follows without choking."""
    need_sound(machine)
    if not is_integer(many) or not 0 <= many <= 2000:
        raise InvalidNumber()
    roads = roads_of(machine)
    counts = {(0, ()): 1}
    for _ in range(many):
        after = {}
        for standing, count in counts.items():
            for other in roads[standing]:
                after[other] = after.get(other, 0) + count
        counts = after
    return sum(list(counts.values()))


def need_names(part, names, least, taken):
    """Refuse what is not a sequence of least to 3 different names that are not taken."""
    if not isinstance(names, (list, tuple)) or not least <= len(names) <= 3:
        raise InvalidMachine(part, -1)
    for at, name in enumerate(names):
        if not is_name(name) or name in names[:at] or name in taken:
            raise InvalidMachine(part, at)


def need_arcs(arcs, inputs, outputs):
    """Refuse what is not a sequence of 0 to 16 arcs."""
    if not isinstance(arcs, (list, tuple)) or len(arcs) > 16:
        raise InvalidMachine("arcs", -1)
    for at, arc in enumerate(arcs):
        if not is_arc(arc, inputs, outputs):
            raise InvalidMachine("arcs", at)


def need_sound(machine):
    """Refuse a machine with a fault."""
    found = fault(machine)
    if found is not None:
        raise Unsound(found[0], found[1])


def is_name(thing):
    """Tell whether thing is a name."""
    if not isinstance(thing, str) or not 1 <= len(thing) <= 8 or thing[0] not in LETTERS:
        return False
    return all([sign in LETTERS or sign in DIGITS for sign in thing])


def is_arc(thing, inputs, outputs):
    """Tell whether thing is an arc."""
    if not isinstance(thing, tuple) or len(thing) != 4:
        return False
    state, burst, flips, after = thing
    if not is_state(state) or not is_state(after):
        return False
    return is_choice(burst, inputs) and len(burst) > 0 and is_choice(flips, outputs)


def is_state(thing):
    """Tell whether thing is the number of a state."""
    return is_integer(thing) and 0 <= thing <= 7


def is_choice(thing, names):
    """Tell whether thing is a sequence of different ones of the names."""
    if not isinstance(thing, (list, tuple)) or len(thing) > len(names):
        return False
    return all([isinstance(name, str) and name in names and name not in thing[:at] for at, name in enumerate(thing)])


def ordered_arc(arc, inputs, outputs):
    """Return an arc with its burst and its flips in the order of the inputs and of the outputs."""
    state, burst, flips, after = arc
    return (state, in_order(burst, inputs), in_order(flips, outputs), after)


def in_order(some, names):
    """Return some of the names as a tuple in the order of the names."""
    return tuple([name for name in names if name in some])


def is_part(burst, whole):
    """Tell whether each input of a burst is one of the whole burst."""
    return all([name in whole for name in burst])


def turned(signs, names, some):
    """Return the signs of the names behind a turn of some of them."""
    return "".join(["10"[int(sign)] if name in some else sign for sign, name in zip(signs, names)])


def walk(machine):
    """Go through the reached arcs.

    Return a dict with the signs with which each state is met first, in the order in which they are met,
    the indexes of the arcs, and those of the arcs that meet a state with other signs.
    """
    entered = {0: ("0" * len(machine.inputs), "0" * len(machine.outputs))}
    states = [0]
    passed = []
    odd = []
    while states:
        state = states.pop(0)
        inputs, outputs = entered[state]
        for at, (own, burst, flips, after) in enumerate(machine.arcs):
            if own == state:
                passed.append(at)
                signs = (turned(inputs, machine.inputs, burst), turned(outputs, machine.outputs, flips))
                if after not in entered:
                    entered[after] = signs
                    states.append(after)
                elif entered[after] != signs:
                    odd.append(at)
    return (entered, passed, odd)


def is_input(machine, name):
    """Tell whether name is an input of the machine."""
    return isinstance(name, str) and name in machine.inputs


def is_standing(machine, thing):
    """Tell whether thing is a standing of a reached state of a sound machine."""
    if not isinstance(thing, tuple) or len(thing) != 2:
        return False
    state, arrived = thing
    if not is_state(state) or state not in walk(machine)[0] or not isinstance(arrived, tuple):
        return False
    if arrived != in_order(arrived, machine.inputs):
        return False
    return arrived == () or is_begun(machine, state, arrived)


def is_begun(machine, state, arrived):
    """Tell whether what has arrived is a part of a burst of the state, and not the whole one."""
    bursts = [burst for own, burst, _, _ in machine.arcs if own == state]
    return any([is_part(arrived, burst) and arrived != burst for burst in bursts])


def fed(machine, standing, name):
    """Return what feed returns; the arguments are known to be right."""
    state, arrived = standing
    if name in arrived:
        return None
    now = in_order((*arrived, name), machine.inputs)
    for own, burst, flips, after in machine.arcs:
        if own == state and burst == now:
            return ((after, ()), flips)
    return ((state, now), ()) if is_begun(machine, state, now) else None


def roads_of(machine):
    """Return a dict from the standings that can be come to to lists of the standings behind one more input."""
    roads = {}
    waiting = [(0, ())]
    while waiting:
        standing = waiting.pop()
        if standing not in roads:
            answers = [fed(machine, standing, name) for name in machine.inputs]
            roads[standing] = [answer[0] for answer in answers if answer is not None]
            waiting.extend(roads[standing])
    return roads
