"""Changes: the inputs turn one by one, in any order, from one point to another."""

from burstshop.cubes import is_point
from burstshop.errors import InvalidChange
from burstshop.signs import cube_holds, cube_points, cube_span, sign_rows
from burstshop.tables import sign_at


def is_change(thing, n):
    """Tell whether thing is a change of n inputs."""
    if not isinstance(thing, tuple) or len(thing) != 2:
        return False
    start, end = thing
    return is_point(start, n) and is_point(end, n) and start != end


def change_cube(change):
    """Return the cube of all points that the inputs can show during a change."""
    need_sized_change(change)
    return cube_span(change[0], change[1])


def nature(table, change):
    """Tell what the table does during a change, as a tuple that begins with a word."""
    need_change(change, table.n)
    start, end = change
    points = cube_points(cube_span(start, end))
    frees = [point for point in points if sign_at(table, point) == "-"]
    if frees:
        return ("free", frees[0])
    row = uneven_row(table, change, points)
    if row is not None:
        return ("uneven", row)
    words = {"00": "low", "11": "high", "01": "rise", "10": "fall"}
    return (words[sign_at(table, start) + sign_at(table, end)],)


def is_plain(table, change):
    """Tell whether the nature of a change is low, high, rise or fall."""
    return nature(table, change)[0] in ("low", "high", "rise", "fall")


def is_uneven(table, change, points):
    """Tell whether points is a list that shows that a change is uneven."""
    need_change(change, table.n)
    if not is_row(table.n, change, points):
        return False
    signs = [sign_at(table, point) for point in points]
    if "-" in signs:
        return False
    turns = len([before for before, after in zip(signs, signs[1:]) if before != after])
    return turns >= (1 if signs[0] == signs[-1] else 2)


def turning(table, change):
    """Return the end of a change that is on, if it is a rise or a fall, else None."""
    kind = nature(table, change)
    if kind == ("rise",):
        return change[1]
    if kind == ("fall",):
        return change[0]
    return None


def plain_changes(table):
    """List the plain changes of a table, ascending."""
    points = sign_rows(table.n, "01")
    pairs = [(start, end) for start in points for end in points if start != end]
    return [change for change in pairs if is_plain(table, change)]


def uneven_row(table, change, points):
    """List points that show that a change is uneven, or return None; the cube's points have no free one."""
    start, end = change
    first = sign_at(table, start)
    last = sign_at(table, end)
    others = [point for point in points if sign_at(table, point) != first]
    if first == last:
        return [start, others[0], end] if others else None
    backs = [point for point in points if sign_at(table, point) == first]
    for x in others:
        rest = cube_span(x, end)
        for y in backs:
            if cube_holds(rest, y):
                return [start, x, y, end]
    return None


def is_row(n, change, points):
    """Tell whether points leads from the start of a change to its end, each input turning at most once."""
    if not isinstance(points, (list, tuple)) or len(points) < 2:
        return False
    if not all([is_point(point, n) for point in points]):
        return False
    start, end = change
    if points[0] != start or points[-1] != end:
        return False
    for before, after in zip(points, points[1:]):
        if before == after or not cube_holds(cube_span(before, end), after):
            return False
    return True


def need_change(change, n):
    """Refuse what is not a change of n inputs."""
    if not is_change(change, n):
        raise InvalidChange(-1)


def need_sized_change(change):
    """Refuse what is not a change of 1 to 5 inputs."""
    if not any([is_change(change, n) for n in range(1, 6)]):
        raise InvalidChange(-1)
