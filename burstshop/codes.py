"""Codes: the signs of the state wires in each state, and the signs that each function has to show then."""

from burstshop.errors import Clash, InvalidCoding, InvalidNumber
from burstshop.machines import arcs_met, entries, need_sound
from burstshop.signs import cube_points, cube_span, is_integer, is_signs


def steps(machine, coding, arc):
    """List the steps of a reached arc: a change of the inputs, then one of the wires if the code changes."""
    need_coding(machine, coding)
    if not is_integer(arc):
        raise InvalidNumber()
    changes = [change for at, _, change, _, _ in step_rows(machine, coding) if at == arc]
    if not changes:
        raise InvalidNumber()
    return changes


def clash(machine, coding):
    """Return the first arc and function whose steps give a point another sign than it has, or None."""
    need_coding(machine, coding)
    rows = step_rows(machine, coding)
    order = arcs_met(machine)
    places = []
    for function in range(function_count(machine, coding)):
        arc = told_signs(rows, function)[1]
        if arc is not None:
            places.append((order.index(arc), function))
    if not places:
        return None
    place, function = min(places)
    return (order[place], function)


def need_coding(machine, coding):
    """Refuse a machine with a fault, then what is not a coding of it."""
    need_sound(machine)
    if not isinstance(coding, (list, tuple)) or len(coding) != state_count(machine):
        raise InvalidCoding(-1)
    for at, code in enumerate(coding):
        if not is_code(code, coding[0]):
            raise InvalidCoding(at)


def need_no_clash(machine, coding):
    """Refuse what need_coding refuses, then a coding that gives a point two signs of a function."""
    found = clash(machine, coding)
    if found is not None:
        raise Clash(found[0], found[1])


def state_count(machine):
    """Return how many codes a coding of the machine has."""
    return 1 + max([0] + [max(state, after) for state, _, _, after in machine.arcs])


def is_code(thing, first):
    """Tell whether thing is a string of 0 to 2 signs, as many as the first code has."""
    if not isinstance(thing, str) or len(thing) > 2:
        return False
    return is_signs(thing, len(first), "01")


def function_count(machine, coding):
    """Return how many outputs and state wires there are."""
    return len(machine.outputs) + len(coding[0])


def variable_count(machine, coding):
    """Return how many inputs and state wires there are."""
    return len(machine.inputs) + len(coding[0])


def step_rows(machine, coding):
    """List the steps of the reached arcs in the order in which they are gone through.

    A step is a tuple of the arc, the step's number, its change, and two strings with a sign for each function:
    those at all points of the change's cube but its end, and those at its end.
    """
    entered = entries(machine)
    rows = []
    for at in arcs_met(machine):
        state, _, _, after = machine.arcs[at]
        before, now = coding[state], coding[after]
        start = entered[state][0] + before
        middle = entered[after][0] + before
        end = entered[after][0] + now
        old = entered[state][1] + before
        new = entered[after][1] + now
        rows.append((at, 0, (start, middle), old, new))
        if before != now:
            rows.append((at, 1, (middle, end), new, new))
    return rows


def told_signs(rows, function):
    """Return a dict with the signs that a function has at the points of the steps, and None.

    If a point gets two signs, return the first arc that gives it another one instead of None.
    """
    signs = {}
    for at, _, change, old, new in rows:
        for point in cube_points(cube_span(change[0], change[1])):
            sign = new[function] if point == change[1] else old[function]
            if signs.setdefault(point, sign) != sign:
                return (signs, at)
    return (signs, None)
