"""Tables: what a circuit has to show at each point."""

from burstshop.cubes import is_point
from burstshop.errors import InvalidPoint, InvalidTable
from burstshop.signs import cube_points, is_signs, is_size, outermost, sign_rows


class Table:
    """A sign for each point: "1" for on, "0" for off, "-" for free."""

    def __init__(self, text):
        if not isinstance(text, str):
            raise InvalidTable("kind")
        if len(text) not in (2, 4, 8, 16, 32):
            raise InvalidTable("length")
        if not is_signs(text, len(text), "-01"):
            raise InvalidTable("sign")
        self.text = text
        self.n = len(text).bit_length() - 1

    @classmethod
    def told(cls, n, *, ons, frees=()):
        """Make a table of n inputs from its on points and its free points."""
        if not is_size(n):
            raise InvalidTable("inputs")
        need_points(ons, n)
        need_points(frees, n)
        if any([point in frees for point in ons]):
            raise InvalidTable("both")
        return cls("".join([told_sign(point, ons, frees) for point in sign_rows(n, "01")]))

    def __eq__(self, other):
        return isinstance(other, Table) and self.text == other.text

    def value(self, point):
        """Return the sign of a point."""
        if not is_point(point, self.n):
            raise InvalidPoint(0)
        return sign_at(self, point)

    def ons(self):
        """List the on points, ascending."""
        return points_with(self, "1")

    def offs(self):
        """List the off points, ascending."""
        return points_with(self, "0")

    def frees(self):
        """List the free points, ascending."""
        return points_with(self, "-")

    def primes(self):
        """List the primes, ascending."""
        return outermost([cube for cube in sign_rows(self.n, "-01") if not has_off(self, cube)])

    def refines(self, other):
        """Tell whether each point that is on or off in the other table has the same sign here."""
        if self.n != other.n:
            return False
        return all([theirs in ("-", mine) for mine, theirs in zip(self.text, other.text)])


def sign_at(table, point):
    """Return the sign of a point that is known to be one of the table's inputs."""
    return table.text[int(point, 2)]


def points_with(table, sign):
    """List the points that have the sign, ascending."""
    return [point for point, own in zip(sign_rows(table.n, "01"), table.text) if own == sign]


def has_off(table, cube):
    """Tell whether the cube contains an off point of the table."""
    return "0" in cube_signs(table, cube)


def cube_signs(table, cube):
    """Return the signs of the cube's points, in the order of the points."""
    return "".join([sign_at(table, point) for point in cube_points(cube)])


def told_sign(point, ons, frees):
    """Return the sign of a point by the lists of the on points and the free points."""
    if point in ons:
        return "1"
    return "-" if point in frees else "0"


def need_points(points, n):
    """Refuse a list with an item that is not a point of n inputs."""
    for at, point in enumerate(points):
        if not is_point(point, n):
            raise InvalidPoint(at)
