"""burstshop.cubes: promises [10] to [13], and [2] to [4] there."""

import unittest

from burstshop import cubes as module
from burstshop.cubes import (all_cubes, consensus, distance, holds, is_cube, is_point, literals, meet, points_of,
                             span)
from burstshop.errors import InvalidCube, LimitExceeded
from tests.helper import SIZES, Case, anything, cubes, inside, is_int, names, points, sample

PAIRED = {"holds": holds, "meet": meet, "consensus": consensus, "span": span, "distance": distance}
SINGLE = {"points_of": points_of, "literals": literals}


def pairs(n):
    """All pairs of cubes of up to three inputs, and many of more."""
    rows = cubes(n)
    if n <= 3:
        return [(c, d) for c in rows for d in rows]
    source = sample(n)
    return [(source.choice(rows), source.choice(rows)) for _ in range(1500)] + [(c, c) for c in rows]


INSIDE = {cube: inside(cube) for n in SIZES for cube in cubes(n)}


class PointsAndCubes(Case):
    def test_points_and_cubes_of_each_size(self):
        for n in SIZES:
            for size in range(0, 7):
                for cube in cubes(size):
                    self.says(size == n, is_cube(cube, n))
                    self.says(size == n and "-" not in cube, is_point(cube, n))

    def test_other_signs(self):
        for n in SIZES:
            for sign in "2x *\n~O+_":
                for at in range(n):
                    text = "0" * at + sign + "1" * (n - at - 1)
                    self.says(False, is_point(text, n))
                    self.says(False, is_cube(text, n))

    def test_any_value(self):
        for n in SIZES:
            for thing in anything():
                with self.subTest(n=n, thing=names(thing)):
                    text = isinstance(thing, str) and len(thing) == n
                    self.says(text and set(thing) <= set("01"), is_point(thing, n))
                    self.says(text and set(thing) <= set("01-"), is_cube(thing, n))

    def test_lists_of_signs_are_no_strings(self):
        for n in SIZES:
            for thing in (["0"] * n, ("0",) * n, b"0" * n, bytearray(b"0" * n), ["0" * n], ("1" * n,), {"0" * n}):
                self.says(False, is_point(thing, n))
                self.says(False, is_cube(thing, n))

    def test_by_name(self):
        self.says(True, is_point(n=2, thing="01"))
        self.says(True, is_cube(thing="0-", n=2))

    def test_points_of(self):
        for n in SIZES:
            for cube in cubes(n):
                self.assertEqual(points_of(cube), sorted(INSIDE[cube]))
        self.assertEqual(points_of("1-0-"), ["1000", "1001", "1100", "1101"])
        self.assertEqual(points_of(cube="01"), ["01"])

    def test_a_point_contains_itself_alone(self):
        for n in SIZES:
            for point in points(n):
                self.assertEqual(points_of(point), [point])

    def test_all_cubes(self):
        for n in SIZES:
            rows = all_cubes(n)
            self.assertEqual(rows, sorted(set(rows)))
            self.assertEqual(sorted(rows), sorted(cubes(n)))
        self.assertEqual(all_cubes(1), ["-", "0", "1"])
        self.assertEqual(all_cubes(n=2), ["--", "-0", "-1", "0-", "00", "01", "1-", "10", "11"])

    def test_all_cubes_of_a_wrong_number(self):
        for thing in anything() + [0, -1, 6, 7, True, False, 1.0, 5.0, "1", 10 ** 30]:
            with self.subTest(thing=names(thing)):
                if is_int(thing) and 1 <= thing <= 5:
                    self.assertEqual(len(all_cubes(thing)), 3 ** thing)
                else:
                    self.refuses(LimitExceeded, {"limit": 5}, all_cubes, thing)

    def test_literals(self):
        for n in SIZES:
            for cube in cubes(n):
                many = literals(cube)
                self.assertTrue(is_int(many))
                self.assertEqual(many, sum(sign in "01" for sign in cube))
        self.assertEqual(literals(cube="0-1--"), 2)


class TwoCubes(Case):
    def test_holds(self):
        for n in SIZES:
            for c, d in pairs(n):
                self.says(INSIDE[d] <= INSIDE[c], holds(c, d))

    def test_meet(self):
        for n in SIZES:
            for c, d in pairs(n):
                common = INSIDE[c] & INSIDE[d]
                answer = meet(c, d)
                if common:
                    self.assertEqual(INSIDE[answer], common)
                else:
                    self.assertIsNone(answer)

    def test_span_is_the_least_cube_that_holds_both(self):
        for n in SIZES:
            rows = cubes(n)
            for c, d in pairs(n)[::1 if n <= 3 else 20]:
                both = INSIDE[c] | INSIDE[d]
                around = [cube for cube in rows if both <= INSIDE[cube]]
                least = [cube for cube in around if all(INSIDE[cube] <= INSIDE[other] for other in around)]
                self.assertEqual([span(c, d)], least)

    def test_span_of_larger_cubes(self):
        for n in (4, 5):
            for c, d in pairs(n):
                signs = [a if a == b else "-" for a, b in zip(c, d)]
                self.assertEqual(span(c, d), "".join(signs))

    def test_distance(self):
        for n in SIZES:
            for c, d in pairs(n):
                many = distance(c, d)
                self.assertTrue(is_int(many))
                self.assertEqual(many, sum({a, b} == {"0", "1"} for a, b in zip(c, d)))
                self.assertEqual(many == 0, bool(INSIDE[c] & INSIDE[d]))

    def test_consensus(self):
        for n in SIZES:
            for c, d in pairs(n):
                if sum({a, b} == {"0", "1"} for a, b in zip(c, d)) != 1:
                    self.assertIsNone(consensus(c, d))
                    continue
                signs = []
                for a, b in zip(c, d):
                    if {a, b} == {"0", "1"} or a == b == "-":
                        signs.append("-")
                    else:
                        signs.append(a if a != "-" else b)
                self.assertEqual(consensus(c, d), "".join(signs))

    def test_what_lies_in_two_cubes_is_held_by_one_of_three(self):
        for n in SIZES:
            for c, d in pairs(n)[::1 if n <= 3 else 15]:
                both = INSIDE[c] | INSIDE[d]
                three = [cube for cube in (c, d, consensus(c, d)) if cube is not None]
                if len(three) == 3:
                    self.assertLessEqual(INSIDE[three[2]], both)
                for cube in cubes(n):
                    if INSIDE[cube] <= both:
                        self.assertTrue(any(holds(outer, cube) for outer in three), (c, d, cube))

    def test_by_name(self):
        self.says(True, holds(d="10", c="1-"))
        self.assertEqual(meet(d="11-", c="1-0"), "110")
        self.assertEqual(consensus(d="01-", c="1-0"), "-10")
        self.assertEqual(span(d="01", c="00"), "0-")
        self.assertEqual(distance(d="011", c="10-"), 2)

    def test_order_of_the_arguments(self):
        self.assertEqual([holds("--", "00"), holds("00", "--")], [True, False])

    def test_the_worked_example(self):
        self.assertEqual([consensus("1-0", "01-"), meet("1-0", "11-")], ["-10", "110"])


class WrongCubes(Case):
    def test_the_first_cube(self):
        for thing in anything() + ["", "000000", "------", "0x", "0 ", ["0", "1"], b"01", 1, True, None]:
            if isinstance(thing, str) and 1 <= len(thing) <= 5 and set(thing) <= set("01-"):
                continue
            for name, function in {**PAIRED, **SINGLE}.items():
                with self.subTest(name=name, thing=names(thing)):
                    others = ["01"] if name in PAIRED else []
                    self.refuses(InvalidCube, {"at": 0}, function, thing, *others)

    def test_the_second_cube(self):
        for n in SIZES:
            for thing in anything() + ["0" * (n - 1), "0" * (n + 1), "0" * (n - 1) + "x", ["0"] * n]:
                if isinstance(thing, str) and len(thing) == n and set(thing) <= set("01-"):
                    continue
                for name, function in PAIRED.items():
                    with self.subTest(n=n, name=name, thing=names(thing)):
                        self.refuses(InvalidCube, {"at": 1}, function, "-" * n, thing)

    def test_the_first_one_is_refused_first(self):
        for function in PAIRED.values():
            for first in ("", "000000", "x", None, 3, ["0"]):
                for second in ("", "000000", "x", None, first):
                    self.refuses(InvalidCube, {"at": 0}, function, first, second)
            self.refuses(InvalidCube, {"at": 0}, function, d="x", c="000000")
            self.refuses(InvalidCube, {"at": 1}, function, d="000", c="00")


class Overview(Case):
    def test_new_lists(self):
        for n in SIZES:
            self.is_new(all_cubes, n)
            self.is_new(points_of, "-" * n)
            self.is_new(points_of, "0" * n)

    def test_strings_are_plain_strings(self):
        for answer in (meet("--", "0-"), consensus("0-", "1-"), span("00", "11"), *points_of("--"), *all_cubes(2)):
            self.assertIs(type(answer), str)

    def test_where_the_names_stand(self):
        self.stands_in(module, ["is_point", "is_cube", "all_cubes", *PAIRED, *SINGLE])


if __name__ == "__main__":
    unittest.main()
