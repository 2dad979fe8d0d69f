"""Points and cubes of 1 to 5 inputs."""

from burstshop.errors import InvalidCube, LimitExceeded
from burstshop.signs import cube_holds, cube_points, cube_span, cubes_meet, known_signs, literal_count
from burstshop.signs import is_signs, is_size, is_sized, opposed, sign_rows


def is_point(thing, n):
    """Tell whether thing is a point of n inputs."""
    return is_signs(thing, n, "01")


def is_cube(thing, n):
    """Tell whether thing is a cube of n inputs."""
    return is_signs(thing, n, "-01")


def holds(c, d):
    """Tell whether each point of d is a point of c."""
    need_cubes(c, d)
    return cube_holds(c, d)


def meet(c, d):
    """Return the cube of the common points of c and d, or None if there is none."""
    need_cubes(c, d)
    if not cubes_meet(c, d):
        return None
    return known_signs(c, d)


def consensus(c, d):
    """Return the consensus of c and d, or None if their distance is not 1."""
    need_cubes(c, d)
    if opposed(c, d) != 1:
        return None
    signs = []
    for one, other in zip(c, d):
        if one == "-":
            signs.append(other)
        elif other == "-" or one == other:
            signs.append(one)
        else:
            signs.append("-")
    return "".join(signs)


def span(c, d):
    """Return the least cube that holds c and d."""
    need_cubes(c, d)
    return cube_span(c, d)


def distance(c, d):
    """Count the inputs where one of c and d has "0" and the other "1"."""
    need_cubes(c, d)
    return opposed(c, d)


def points_of(cube):
    """List the points of a cube, ascending."""
    need_cube(cube)
    return cube_points(cube)


def literals(cube):
    """Count the literals of a cube."""
    need_cube(cube)
    return literal_count(cube)


def all_cubes(n):
    """List the cubes of n inputs, ascending."""
    if not is_size(n):
        raise LimitExceeded(5)
    return sign_rows(n, "-01")


def need_cube(cube):
    """Refuse what is not a cube of 1 to 5 inputs."""
    if not is_sized(cube, "-01"):
        raise InvalidCube(0)


def need_cubes(c, d):
    """Refuse what are not two cubes of one size."""
    need_cube(c)
    if not is_cube(d, len(c)):
        raise InvalidCube(1)
