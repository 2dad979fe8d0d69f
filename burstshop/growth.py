"""Demands: a table with the changes to keep, the cubes that are good for them, and their growth."""

from burstshop.changes import is_change, is_plain
from burstshop.cubes import is_cube
from burstshop.errors import InvalidChange, InvalidCube
from burstshop.signs import cube_holds, cube_points, cube_span, cubes_meet, is_integer, outermost, sign_rows
from burstshop.tables import cube_signs, has_off, sign_at


class Demand:
    """A table and a list of 0 to 40 plain changes of it."""

    def __init__(self, table, changes=()):
        if not isinstance(changes, (list, tuple)) or len(changes) > 40:
            raise InvalidChange(-1)
        for at, change in enumerate(changes):
            if not is_change(change, table.n) or not is_plain(table, change):
                raise InvalidChange(at)
        self.table = table
        self.changes = tuple(changes)

    def __len__(self):
        return len(self.changes)

    def __getitem__(self, at):
        return self.changes[at]

    def __iter__(self):
        raise TypeError("a demand is not iterated over")

    def __contains__(self, change):
        return change in self.changes

    def __eq__(self, other):
        return isinstance(other, Demand) and self.table == other.table and self.changes == other.changes

    def __add__(self, change):
        return Demand(self.table, (*self.changes, change))

    def only(self, numbers):
        """Return the demand with the changes of these numbers alone."""
        return Demand(self.table, [self.changes[at] for at in numbers])


def broken(demand, cube):
    """List the numbers of the changes that the cube breaks, ascending."""
    need_cube_of(demand, cube)
    return [at for at, room, end in turnings(demand) if is_broken(cube, room, end)]


def is_good(demand, cube):
    """Tell whether the cube breaks no change and contains no off point."""
    need_cube_of(demand, cube)
    return is_good_cube(demand.table, turnings(demand), cube)


def good_primes(demand):
    """List the good cubes that no other good cube holds, ascending."""
    rows = turnings(demand)
    cubes = sign_rows(demand.table.n, "-01")
    return outermost([cube for cube in cubes if is_good_cube(demand.table, rows, cube)])


def grown(demand, cube):
    """Let a cube grow by the least broken change until it breaks none."""
    need_cube_of(demand, cube)
    rows = turnings(demand)
    last = cube
    steps = []
    step = least_step(rows, last)
    while step is not None:
        steps.append(step)
        last = step[1]
        step = least_step(rows, last)
    return (last, steps)


def is_growth(demand, cube, thing):
    """Tell whether thing is a growth of the cube, by any of the broken changes at each step."""
    need_cube_of(demand, cube)
    if not isinstance(thing, tuple) or len(thing) != 2:
        return False
    last, steps = thing
    return isinstance(last, str) and last == end_of_growth(demand, cube, steps)


def needed(demand):
    """List the candidates that no other candidate holds, ascending."""
    table = demand.table
    cubes = table.ons()
    for change in demand.changes:
        cubes.extend(change_candidates(table, change))
    return outermost(cubes)


def barred(demand):
    """Return the least needed cube that grows over an off point, its steps and the point, or None."""
    for cube in needed(demand):
        last, steps = grown(demand, cube)
        if has_off(demand.table, last):
            offs = [point for point in cube_points(last) if sign_at(demand.table, point) == "0"]
            return (cube, steps, offs[0])
    return None


def is_bar(demand, thing):
    """Tell whether thing shows that a needed cube grows over an off point."""
    if not isinstance(thing, tuple) or len(thing) != 3:
        return False
    cube, steps, point = thing
    if not isinstance(cube, str) or cube not in needed(demand):
        return False
    last = end_of_growth(demand, cube, steps)
    if last is None or not isinstance(point, str) or point not in cube_points(last):
        return False
    return sign_at(demand.table, point) == "0"


def turnings(demand):
    """List number, cube and turning end of each rise and each fall of the demand."""
    rows = []
    for at, (start, end) in enumerate(demand.changes):
        first = sign_at(demand.table, start)
        if first != sign_at(demand.table, end):
            rows.append((at, cube_span(start, end), start if first == "1" else end))
    return rows


def is_broken(cube, room, end):
    """Tell whether the cube breaks a rise or fall with this cube and this turning end."""
    return cubes_meet(cube, room) and not cube_holds(cube, end)


def is_good_cube(table, rows, cube):
    """Tell whether the cube breaks no change of the rows and contains no off point."""
    if has_off(table, cube):
        return False
    return not any([is_broken(cube, room, end) for _, room, end in rows])


def least_step(rows, cube):
    """Return the step of a growth by the least broken change, or None if there is none."""
    for at, room, end in rows:
        if is_broken(cube, room, end):
            return (at, cube_span(cube, end))
    return None


def end_of_growth(demand, cube, steps):
    """Return the cube behind the steps of a growth of the cube, or None if they are not such steps."""
    if not isinstance(steps, (list, tuple)):
        return None
    rows = turnings(demand)
    last = cube
    for step in steps:
        if not is_step(rows, last, step):
            return None
        last = step[1]
    return last if least_step(rows, last) is None else None


def is_step(rows, cube, step):
    """Tell whether a cube grows by this step."""
    if not isinstance(step, tuple) or len(step) != 2:
        return False
    number, larger = step
    if not is_integer(number) or not isinstance(larger, str):
        return False
    ends = [end for at, room, end in rows if at == number and is_broken(cube, room, end)]
    return ends != [] and larger == cube_span(cube, ends[0])


def change_candidates(table, change):
    """List the candidates that a change brings."""
    start, end = change
    room = cube_span(start, end)
    signs = sign_at(table, start) + sign_at(table, end)
    if signs == "00":
        return []
    if signs == "11":
        return [room]
    anchor = start if signs == "10" else end
    spans = [cube_span(anchor, point) for point in cube_points(room)]
    return [cube for cube in spans if "0" not in cube_signs(table, cube)]


def need_cube_of(demand, cube):
    """Refuse what is not a cube of as many inputs as the table of the demand has."""
    if not is_cube(cube, demand.table.n):
        raise InvalidCube(1)
