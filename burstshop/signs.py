"""Points and cubes as plain strings of signs. Nothing is checked here."""


def is_integer(thing):
    """Tell whether thing is an int that is not a bool."""
    return isinstance(thing, int) and not isinstance(thing, bool)


def is_size(thing):
    """Tell whether thing is a number of inputs, an integer from 1 to 5."""
    return is_integer(thing) and 1 <= thing <= 5


def is_signs(thing, n, allowed):
    """Tell whether thing is a string of n signs, each of them an allowed one."""
    if not isinstance(thing, str) or len(thing) != n:
        return False
    return all([sign in allowed for sign in thing])


def is_sized(thing, allowed):
    """Tell whether thing is a string of 1 to 5 signs, each of them an allowed one."""
    return isinstance(thing, str) and is_size(len(thing)) and is_signs(thing, len(thing), allowed)


def sign_rows(n, signs):
    """List all strings of n of the signs, ordered as the signs are."""
    rows = [""]
    for _ in range(n):
        rows = [row + sign for row in rows for sign in signs]
    return rows


def cube_points(cube):
    """List the points of a cube, ascending."""
    points = [""]
    for sign in cube:
        choices = "01" if sign == "-" else sign
        points = [point + choice for point in points for choice in choices]
    return points


def cube_holds(c, d):
    """Tell whether each point of the cube d is a point of the cube c."""
    for outer, inner in zip(c, d):
        if outer != "-" and outer != inner:
            return False
    return True


def opposed(c, d):
    """Count the inputs where one of two cubes has "0" and the other "1"."""
    count = 0
    for one, other in zip(c, d):
        if one != other and one != "-" and other != "-":
            count += 1
    return count


def cubes_meet(c, d):
    """Tell whether two cubes have a common point."""
    return opposed(c, d) == 0


def cube_span(c, d):
    """Return the least cube that holds two cubes."""
    return "".join([one if one == other else "-" for one, other in zip(c, d)])


def known_signs(c, d):
    """Return for each input the sign that is not "-" in c or else in d, or "-" if there is none."""
    return "".join([other if one == "-" else one for one, other in zip(c, d)])


def literal_count(cube):
    """Count the signs "0" and "1" of a cube."""
    return len(cube) - cube.count("-")


def is_held(cube, cubes):
    """Tell whether one of the cubes holds the cube."""
    for outer in cubes:
        if cube_holds(outer, cube):
            return True
    return False


def outermost(cubes):
    """List the cubes that no other one of them holds, ascending, each once."""
    kept = []
    # A cube is held only by cubes with fewer literals, so these must come first.
    for cube in sorted(cubes, key=literal_count):
        if not is_held(cube, kept):
            kept.append(cube)
    return sorted(kept)
