"""What several tests share: slow answers by the words of the document, wrong values, and checks."""

import copy
import itertools
import random
import unittest

from burstshop.errors import InvalidCube, NothingLeft, ShopError
from burstshop.tables import Table

SIZES = (1, 2, 3, 4, 5)


def sample(seed):
    """A row of numbers that is the same in each run."""
    return random.Random(seed)


def points(n):
    return ["".join(signs) for signs in itertools.product("01", repeat=n)]


def cubes(n):
    return ["".join(signs) for signs in itertools.product("-01", repeat=n)]


def inside(cube):
    """The points of a cube: those with its sign wherever it is not "-"."""
    return {p for p in points(len(cube)) if all(c in ("-", s) for c, s in zip(cube, p))}


def tables(n):
    return ["".join(signs) for signs in itertools.product("01-", repeat=2 ** n)]


def some_tables(n, many, seed, signs="01-"):
    """Texts of tables of n inputs; the first ones are all of one sign."""
    source = sample(seed)
    rows = [sign * 2 ** n for sign in sorted(set(signs))]
    while len(rows) < many:
        # A table in which one sign is rare has larger cubes than one in which all are as frequent.
        row = source.choice([signs, signs + "0" * 6, signs + "1" * 6, "01"])
        rows.append("".join(source.choice(row) for _ in range(2 ** n)))
    return rows


def nest(deep, wrap):
    thing = 0
    for _ in range(deep):
        thing = wrap(thing)
    return thing


def anything():
    """Values of all kinds that Python has built in, and some of the program."""
    plain = [
        None, True, False, 0, 1, 2, 5, 6, -1, 10 ** 40, -(10 ** 40), 0.0, 1.0, 2.0, 1.5, -0.5,
        float("inf"), float("nan"), 1j, "", " ", "x", "\n", "-", "0", "1", "2", "01x", "0 1", "00\n", "0" * 6,
        "-" * 6, "01-" * 50, b"", b"0", b"01", bytearray(b"01"), memoryview(b"01"), range(0), range(2),
        slice(0, 1), ..., NotImplemented, object(), object, int, str, type, len, print, ValueError, ValueError("00"),
        zip(), iter([]), iter("01"), (s for s in "01"), reversed("01"), enumerate("01"), map(str, [0]), filter(None, []),
        lambda: "01", str.join, "01".join, property(), staticmethod(len), super, itertools,
    ]
    boxes = [
        [], (), {}, set(), frozenset(), [[]], ((),), [()], ([],), [None], (None,), ["x"], ("x",), ["0"], ("0",), [0], (0,),
        ["0", "1"], {"0": "1"}, {"0"}, frozenset("01"), {0: 0, 1: 1}, [True], (1.0,), (0, 0), [0, 0], ("0", 1), (b"0", b"1"),
        ["-"] * 100, ["-"] * 101, list("01") * 40, {"a": [{"b": ({1},)}]}, ("0", "x"), ("", ""), ("0", ["1"]), (["0"], "1"),
    ]
    deep = [nest(40, lambda x: [x]), nest(40, lambda x: (x,)), nest(40, lambda x: {"a": x}),
            nest(12, lambda x: (x, [x]))]
    own = [Table("01"), Table("0110"), ShopError(), ShopError, Table, InvalidCube(0), NothingLeft("cover"), Table.value]
    return plain + boxes + deep + own


def is_int(thing):
    return isinstance(thing, int) and not isinstance(thing, bool)


def names(thing):
    """What a failing test shows of a value."""
    return f"{type(thing).__name__}: {str(thing)[:60]!r}"


class Case(unittest.TestCase):
    """A test case with the checks that the promises of the overview ask for."""

    def refuses(self, error, told, function, *args, **named):
        """The call raises just this error, with these attributes."""
        try:
            answer = function(*args, **named)
        except ShopError as raised:
            self.assertIs(type(raised), error, f"{raised!r}")
            for name, value in told.items():
                own = getattr(raised, name)
                self.assertEqual(own, value)
                self.assertIs(type(own), type(value))
        else:
            self.fail(f"no {error.__name__}, but {names(answer)}")

    def says(self, flag, answer):
        """The answer is this flag, and no other value that counts like it."""
        self.assertIs(answer, flag)

    def is_new(self, function, *args, **named):
        """The call returns a new list each time, and changes nothing that it is given."""
        kept = copy.deepcopy((args, named))
        first = function(*args, **named)
        self.assertIs(type(first), list)
        before = copy.deepcopy(first)
        first.append("more")
        for item in first:
            if isinstance(item, list):
                item.append("more")
        second = function(*args, **named)
        self.assertIsNot(first, second)
        self.assertEqual(second, before)
        self.assertEqual((args, named), kept)

    def stands_in(self, module, names_of):
        """The names are defined in the module, not imported into it."""
        for name in names_of:
            self.assertEqual(getattr(module, name).__module__, module.__name__, name)
