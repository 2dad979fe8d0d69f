"""burstshop.least: promises [50] to [56], the first sentence of [134], and [2] to [4] there."""

import itertools
import unittest

from burstshop import least as module
from burstshop.errors import InvalidCover, LimitExceeded, NothingLeft
from burstshop.growth import Demand, barred, good_primes, grown, needed
from burstshop.least import (essentials, grown_cover, is_cover_for, least_covers, least_size, needless, pruned,
                             small_cover, widened)
from burstshop.tables import Table
from tests.helper import (SIZES, Case, anything, barred_demands, changes, cubes, has_off, inside, is_int, names, outer,
                          points, sample, slow_broken, slow_barred, slow_fits, slow_good, slow_good_primes,
                          slow_growths, slow_is_cover, slow_kind, slow_needed, some_demands)

OF_A_DEMAND = {"grown_cover": grown_cover, "small_cover": small_cover, "essentials": essentials,
               "least_covers": least_covers}
OF_A_COVER = {"needless": needless, "pruned": pruned, "widened": widened}

BARRED = ("01010100", [("011", "000"), ("101", "000")])
EXAMPLE = "11011001"
# Texts of tables of five inputs that have as many primes as the name says; those of FREE have no on point.
PRIMES_14 = "0101011-11-11-01111--10-00-110-1"
PRIMES_15 = "100-10111-0101100-1-101----10110"
FREE_14 = "--0--0-0--000--0-00--0---0--0-0-"
FREE_15 = "000-00-----0--00--0--0-00-----00"
# With the falls of TWO these are barred, and with the first one alone they are not.
TWO = [("00011", "00000"), ("00101", "00000")]
BARRED_15 = "01010100011111111011110111100110"
# The first fall makes 15 primes 14 good primes, and 14 primes 15 good primes.
FROM_15_TO_14 = "0101010011---001-1-0--1111010101"
FROM_14_TO_15 = "01010100001110000111111011011001"


def cases(n, many, most=5):
    return some_demands(n, many, n + 50, most)


def open_cases(n, many, most=5):
    """The demands that have a cover."""
    return [row for row in cases(n, many, most) if not slow_barred(*row)]


def covers_for(n, text, listed, source):
    """Covers for a demand that is not barred, with products that can be left out and equal ones."""
    primes = slow_good_primes(text, listed)
    good = [cube for cube in cubes(n) if slow_good(text, listed, cube)]
    ends = [slow_growths(text, listed, cube)[0][0] for cube in slow_needed(text, listed)]
    rows = [primes, ends, outer(ends), primes + ends[::-1], good[:40] + primes]
    for _ in range(3):
        row = ends + [source.choice(good) for _ in range(source.randint(0, 4)) if good]
        source.shuffle(row)
        rows.append(row)
    return rows


def slow_size(cover):
    return (len(cover), sum(sign in "01" for cube in cover for sign in cube))


def slow_pruned(text, listed, cover):
    """The products that remain when each one that can be left out is left out in turn."""
    kept = list(cover)
    at = 0
    while at < len(kept):
        if slow_fits(text, listed, kept[:at] + kept[at + 1:]):
            del kept[at]
        else:
            at += 1
    return kept


def slow_least(text, listed, pool):
    """All least covers from this pool of cubes, by trying all; none if there is no cover."""
    for many in range(len(pool) + 1):
        rows = [list(row) for row in itertools.combinations(sorted(pool), many) if slow_fits(text, listed, list(row))]
        if rows:
            least = min(slow_size(row) for row in rows)
            return sorted(row for row in rows if slow_size(row) == least)
    return []


class CoversForADemand(Case):
    def test_all_covers_of_one_and_two_inputs(self):
        for n, many in ((1, 12), (2, 10)):
            for text, listed in cases(n, many):
                demand = Demand(Table(text), listed)
                for size in range(len(cubes(n)) + 1):
                    for cover in itertools.combinations(cubes(n), size):
                        self.judge(demand, text, listed, cover)

    def judge(self, demand, text, listed, cover):
        """The answer is right, and what [51] says of it holds."""
        fits = slow_fits(text, listed, cover)
        self.says(fits, is_cover_for(demand, cover))
        self.says(fits, is_cover_for(demand, list(cover)))
        good = all(slow_good(text, listed, cube) for cube in cover)
        held = all(any(inside(cube) <= inside(product) for product in cover) for cube in needed(demand))
        self.assertEqual(fits, good and held)

    def test_covers_of_more_inputs(self):
        met = set()
        for n in (3, 4, 5):
            source = sample(n)
            for text, listed in open_cases(n, {3: 50, 4: 25, 5: 15}[n]):
                demand = Demand(Table(text), listed)
                for cover in covers_for(n, text, listed, source):
                    for row in (cover, cover[1:], cover + [source.choice(cubes(n))], cover[:-1] + cover[:1]):
                        if len(row) <= 100:
                            self.judge(demand, text, listed, row)
                            met.add((n, slow_fits(text, listed, row)))
        self.assertEqual(len(met), 6)

    def test_there_is_a_cover_exactly_if_barred_is_none(self):
        for n in SIZES:
            rows = cases(n, 40, 8) + (barred_demands(n, {3: 12, 4: 6, 5: 3}[n], n) if n >= 3 else [])
            for text, listed in rows:
                demand = Demand(Table(text), listed)
                # If there is a cover, all good primes together are one, too.
                exists = slow_fits(text, listed, slow_good_primes(text, listed))
                self.assertEqual(exists, barred(demand) is None)
                self.assertEqual(exists, not slow_barred(text, listed))
                if n == 2:
                    tried = [row for many in range(5) for row in itertools.combinations(cubes(2), many)]
                    self.assertEqual(any(slow_fits(text, listed, row) for row in tried), exists)

    def test_edges(self):
        self.says(True, is_cover_for(Demand(Table("0000")), []))
        self.says(True, is_cover_for(Demand(Table("-00-")), ()))
        self.says(False, is_cover_for(Demand(Table("0001")), []))
        self.says(True, is_cover_for(Demand(Table("1111")), ["--"] * 100))
        self.says(False, is_cover_for(Demand(Table("1111")), ["--"] * 101))
        self.says(True, is_cover_for(Demand(Table("1111")), ["--", "00", "--", "01"]))
        self.says(True, is_cover_for(thing=["0-", "1-"], demand=Demand(Table("1111"))))
        self.says(False, is_cover_for(Demand(Table("1111"), [("00", "10")]), ["0-", "1-"]))
        self.says(True, is_cover_for(Demand(Table("1111"), [("00", "10")]), ["0-", "1-", "-0"]))
        self.says(False, is_cover_for(Demand(Table("0001"), [("11", "00")]), ["1-"]))

    def test_any_value(self):
        for n in SIZES:
            for text in ("1" * 2 ** n, "0" * 2 ** n):
                demand = Demand(Table(text))
                for thing in anything(20) + ["-" * n, {"-" * n}, {"-" * n: 0}, iter(["-" * n]), [["-" * n]], [None]]:
                    with self.subTest(n=n, thing=names(thing)):
                        self.says(slow_is_cover(thing, n) and slow_fits(text, [], thing), is_cover_for(demand, thing))
                for thing in anything(19):
                    with self.subTest(n=n, thing=names(thing)):
                        full = text[0] == "1" and isinstance(thing, str) and thing == "-" * n
                        self.says(full, is_cover_for(demand, [thing]))


class GrownCovers(Case):
    def test_grown_cover(self):
        for n in SIZES:
            for text, listed in cases(n, {1: 20, 2: 60, 3: 60, 4: 30, 5: 15}[n]):
                demand = Demand(Table(text), listed)
                if slow_barred(text, listed):
                    self.refuses(NothingLeft, {"word": "cover"}, grown_cover, demand)
                    self.refuses(NothingLeft, {"word": "cover"}, small_cover, demand)
                    continue
                ends = [slow_growths(text, listed, cube)[0][0] for cube in slow_needed(text, listed)]
                self.assertEqual(grown_cover(demand), outer(ends))

    def test_facts(self):
        for n in SIZES:
            source = sample(n)
            for text, listed in open_cases(n, {1: 20, 2: 60, 3: 40, 4: 20, 5: 8}[n]):
                demand = Demand(Table(text), listed)
                cover = grown_cover(demand)
                self.assertTrue(slow_fits(text, listed, cover))
                self.assertEqual(needless(demand, cover), [])
                for other in covers_for(n, text, listed, source):
                    if len(other) <= 100:
                        for cube in cover:
                            self.assertTrue(any(inside(cube) <= inside(product) for product in other))

    def test_barred_demands(self):
        for text, listed in [BARRED, (BARRED_15, TWO)] + [row for n in (3, 4, 5) for row in barred_demands(n, 4, n)]:
            demand = Demand(Table(text), listed)
            self.refuses(NothingLeft, {"word": "cover"}, grown_cover, demand)
            self.refuses(NothingLeft, {"word": "cover"}, small_cover, demand)
        self.assertEqual(grown_cover(demand=Demand(Table(BARRED[0]), BARRED[1][:1])), ["0-1", "101"])

    def test_without_on_points(self):
        for n in SIZES:
            for sign in "0-":
                self.assertEqual(grown_cover(Demand(Table(sign * 2 ** n))), [])
                self.assertEqual(small_cover(Demand(Table(sign * 2 ** n))), [])


class OfACover(Case):
    def rows(self, n, many):
        source = sample(n)
        for text, listed in open_cases(n, many):
            for cover in covers_for(n, text, listed, source):
                if len(cover) <= 100:
                    yield text, listed, cover

    def test_needless(self):
        met = set()
        for n in SIZES:
            for text, listed, cover in self.rows(n, {1: 15, 2: 25, 3: 25, 4: 8, 5: 4}[n]):
                rows = [j for j in range(len(cover)) if slow_fits(text, listed, cover[:j] + cover[j + 1:])]
                answer = needless(Demand(Table(text), listed), cover)
                met.add((len(rows) > 0, len(rows) == len(cover)))
                self.assertEqual(answer, rows)
                self.assertTrue(all(is_int(j) for j in answer))
                self.assertEqual(needless(Demand(Table(text), listed), tuple(cover)), rows)
        self.assertLessEqual({(False, False), (True, False)}, met)
        self.assertEqual(needless(cover=["--", "00", "--"], demand=Demand(Table("1111"))), [0, 1, 2])
        self.assertEqual(needless(Demand(Table("1111")), ["--", "00"]), [1])
        self.assertEqual(needless(Demand(Table("0000")), []), [])
        self.assertEqual(needless(Demand(Table("1111")), ["--"] * 100), list(range(100)))

    def test_pruned(self):
        for n in SIZES:
            for text, listed, cover in self.rows(n, {1: 15, 2: 25, 3: 25, 4: 8, 5: 4}[n]):
                demand = Demand(Table(text), listed)
                kept = slow_pruned(text, listed, cover)
                self.assertEqual(pruned(demand, cover), kept)
                self.assertEqual(pruned(demand, tuple(cover)), kept)
                self.assertTrue(slow_fits(text, listed, kept))
                self.assertEqual(needless(demand, pruned(demand, cover)), [])
        self.assertEqual(pruned(cover=["0-", "1-", "--"], demand=Demand(Table("1111"))), ["--"])
        self.assertEqual(pruned(Demand(Table("1111")), ["--", "1-", "0-"]), ["1-", "0-"])
        self.assertEqual(pruned(Demand(Table("1111")), ["--"] * 100), ["--"])
        self.assertEqual(pruned(Demand(Table("-0")), ["0"]), [])
        self.assertEqual(pruned(Demand(Table("0000")), ()), [])

    def test_widened(self):
        for n in SIZES:
            for text, listed, cover in self.rows(n, {1: 15, 2: 40, 3: 40, 4: 20, 5: 8}[n]):
                demand = Demand(Table(text), listed)
                primes = slow_good_primes(text, listed)
                rows = [next(p for p in primes if inside(cube) <= inside(p)) for cube in cover]
                self.assertEqual(widened(demand, cover), rows)
                self.assertEqual(widened(demand, tuple(cover)), rows)
                self.assertTrue(slow_fits(text, listed, rows))
        self.assertEqual(widened(cover=["00", "01", "00"], demand=Demand(Table("11-0"))), ["-0", "0-", "-0"])
        self.assertEqual(widened(Demand(Table("1111")), ["00", "01", "1-"]), ["--"] * 3)
        self.assertEqual(widened(Demand(Table("0000")), []), [])

    def test_small_cover(self):
        for n in SIZES:
            for text, listed in open_cases(n, {1: 20, 2: 60, 3: 60, 4: 30, 5: 15}[n]):
                demand = Demand(Table(text), listed)
                cover = small_cover(demand)
                primes = slow_good_primes(text, listed)
                wide = [next(p for p in primes if inside(cube) <= inside(p)) for cube in grown_cover(demand)]
                kept = slow_pruned(text, listed, wide)
                self.assertEqual(cover, kept)
                self.assertEqual(cover, pruned(demand, widened(demand, grown_cover(demand))))
                self.assertTrue(slow_fits(text, listed, cover))
        self.assertEqual(small_cover(demand=Demand(Table(EXAMPLE))), ["0-1", "-00", "-11"])

    def test_no_cover_at_all(self):
        good = {n: "-" * n for n in SIZES}
        for n in SIZES:
            demand = Demand(Table("1" * 2 ** n))
            rows = [([good[n]] * 101, -1), (good[n], -1), ({good[n]}, -1), (None, -1), ([good[n], "0" * (n + 1)], 1),
                    ([good[n]] * 99 + ["x" * n], 99), ([[good[n]]], 0), (("0" * (n - 1), good[n]), 0)]
            for thing in anything():
                if not isinstance(thing, (list, tuple)) or len(thing) > 100:
                    rows.append((thing, -1))
                elif not slow_is_cover(thing, n):
                    rows.append((thing, [slow_is_cover([item], n) for item in thing].index(False)))
            rows += [([good[n], good[n], thing, None], 2) for thing in anything(39) if not slow_is_cover([thing], n)]
            for thing, at in rows:
                with self.subTest(n=n, thing=names(thing)):
                    for function in OF_A_COVER.values():
                        self.refuses(InvalidCover, {"at": at}, function, demand, thing)

    def test_a_cover_that_does_not_fit(self):
        rows = [("1111", [], ["0-"]), ("1111", [], []), ("0111", [], ["--"]), ("1111", [("00", "10")], ["0-", "1-"]),
                ("0001", [("11", "00")], ["11", "10"]), (*BARRED, ["0-1", "-01"]), (*BARRED, []), (*BARRED, ["--1"])]
        for n in SIZES:
            source = sample(n)
            for text, listed in open_cases(n, 15):
                for cover in covers_for(n, text, listed, source):
                    row = cover[:50] + [source.choice(cubes(n))]
                    rows += [(text, listed, part) for part in (row, row[1:]) if not slow_fits(text, listed, part)]
        for text, listed, cover in rows:
            for function in OF_A_COVER.values():
                self.refuses(InvalidCover, {"at": -2}, function, Demand(Table(text), listed), cover)
                self.refuses(InvalidCover, {"at": -2}, function, Demand(Table(text), listed), tuple(cover))


class LeastCovers(Case):
    def test_all_covers_of_one_and_two_inputs(self):
        for n in (1, 2):
            for text, listed in cases(n, 60):
                self.judge(text, listed, cubes(n))

    def judge(self, text, listed, pool):
        """The answers are right; pool holds all cubes of which the least covers can consist."""
        demand = Demand(Table(text), listed)
        rows = slow_least(text, listed, pool)
        self.assertEqual(least_covers(demand), rows)
        size = least_size(demand)
        if not rows:
            self.assertIsNone(size)
        else:
            self.assertEqual(size, slow_size(rows[0]))
            self.assertEqual([type(size), *map(type, size)], [tuple, int, int])
        return rows

    def test_covers_of_more_inputs(self):
        met = set()
        for n in (3, 4, 5):
            for text, listed in cases(n, {3: 80, 4: 60, 5: 60}[n], 6):
                good = [cube for cube in cubes(n) if slow_good(text, listed, cube)]
                primes = slow_good_primes(text, listed)
                if len(primes) > 8:
                    continue
                # Up to some size all good cubes are tried, and otherwise the good primes.
                rows = self.judge(text, listed, good if len(good) <= 14 else primes)
                met.add((n, len(rows) > 1))
                for cover in rows:
                    self.assertLessEqual(set(essentials(Demand(Table(text), listed))), set(cover))
                    self.assertLessEqual(set(cover), set(primes))
        self.assertGreaterEqual(len(met), 5)

    def test_the_example(self):
        demand = Demand(Table(EXAMPLE))
        self.assertEqual(good_primes(demand), ["-00", "-11", "0-1", "00-"])
        self.assertEqual(essentials(demand), ["-00", "-11"])
        self.assertEqual(least_covers(demand), [["-00", "-11", "0-1"], ["-00", "-11", "00-"]])
        self.assertEqual(least_size(demand), (3, 6))
        longer = demand + ("000", "001")
        self.assertIn("00-", needed(longer))
        self.assertEqual(least_covers(demand=longer), [["-00", "-11", "00-"]])
        self.assertEqual(least_size(demand=longer), (3, 6))
        self.assertEqual(essentials(demand=longer), ["-00", "-11", "00-"])

    def test_fewest_products_come_first_and_then_fewest_literals(self):
        for text in ("1--0110-111110--", "01--1--0-11111--", "011000110--11011", "10-011001--1100-"):
            primes = slow_good_primes(text, [])
            rows = self.judge(text, [], primes)
            fitting = [row for row in itertools.combinations(primes, len(rows[0])) if slow_fits(text, [], row)]
            self.assertGreater(len(fitting), len(rows))
        rows = [["--00", "0-0-", "10--"], ["0-0-", "1--0", "10--"]]
        self.assertEqual(least_covers(Demand(Table("1--0110-111110--"))), rows)
        self.assertEqual(least_size(Demand(Table("1--0110-111110--"))), (3, 6))

    def test_barred_demands(self):
        for text, listed in [BARRED, (BARRED_15, TWO)] + [row for n in (3, 4, 5) for row in barred_demands(n, 4, n)]:
            demand = Demand(Table(text), listed)
            self.assertEqual(least_covers(demand), [])
            self.assertIsNone(least_size(demand))
        self.assertEqual(len(good_primes(Demand(Table(BARRED_15), TWO))), 15)

    def test_fourteen_good_primes_and_fifteen(self):
        rows = least_covers(Demand(Table(PRIMES_14)))
        self.assertEqual(len(good_primes(Demand(Table(PRIMES_14)))), 14)
        self.assertEqual(rows, slow_least(PRIMES_14, [], slow_good_primes(PRIMES_14, [])))
        self.assertEqual(least_size(Demand(Table(PRIMES_14))), slow_size(rows[0]))
        for text, listed in ((PRIMES_15, []), (FREE_15, []), (FROM_14_TO_15, TWO[:1])):
            demand = Demand(Table(text), listed)
            self.assertEqual(len(good_primes(demand)), 15)
            self.refuses(LimitExceeded, {"limit": 14}, least_covers, demand)
            self.refuses(LimitExceeded, {"limit": 14}, least_size, demand)

    def test_good_primes_count_and_not_primes(self):
        demand = Demand(Table(FROM_15_TO_14), TWO[:1])
        self.assertEqual((len(demand.table.primes()), len(good_primes(demand))), (15, 14))
        primes = slow_good_primes(FROM_15_TO_14, TWO[:1])
        rows = slow_least(FROM_15_TO_14, TWO[:1], primes)
        self.assertEqual((least_covers(demand), least_size(demand)), (rows, slow_size(rows[0])))
        demand = Demand(Table(FROM_14_TO_15))
        self.assertEqual(len(good_primes(demand)), 14)
        self.assertEqual(least_size(demand), slow_size(least_covers(demand)[0]))

    def test_without_on_points(self):
        for n in SIZES:
            for text in ("0" * 2 ** n, "-" * 2 ** n, "0-" * 2 ** (n - 1), "-00-" * 8):
                self.assertEqual(least_covers(Demand(Table(text))), [[]])
                self.assertEqual(least_size(Demand(Table(text))), (0, 0))
        self.assertEqual(len(good_primes(Demand(Table(FREE_14)))), 14)
        self.assertEqual(least_covers(Demand(Table(FREE_14))), [[]])
        self.assertEqual(least_size(Demand(Table(FREE_14))), (0, 0))

    def test_all_on(self):
        for n in SIZES:
            self.assertEqual(least_covers(Demand(Table("1" * 2 ** n))), [["-" * n]])
            self.assertEqual(least_size(Demand(Table("1" * 2 ** n))), (1, 0))


class Essentials(Case):
    def test_essentials(self):
        met = set()
        for n in SIZES:
            rows = cases(n, {1: 20, 2: 60, 3: 80, 4: 40, 5: 20}[n], 6) + (barred_demands(n, 6, n) if n >= 3 else [])
            for text, listed in rows:
                primes = slow_good_primes(text, listed)
                found = set()
                for cube in slow_needed(text, listed):
                    holding = [prime for prime in primes if inside(cube) <= inside(prime)]
                    found |= set(holding) if len(holding) == 1 else set()
                self.assertEqual(essentials(Demand(Table(text), listed)), sorted(found))
                met.add((slow_barred(text, listed), found != set(), found == set(primes)))
        self.assertLess({(False, True, True), (False, True, False), (False, False, False), (True, True, False)}, met)

    def test_barred_demands(self):
        self.assertEqual(essentials(Demand(Table(BARRED_15), TWO)), ["-1-10", "011--"])
        self.assertEqual(essentials(demand=Demand(Table("0000"))), [])


class FullDemands(Case):
    def test_forty_changes(self):
        text = "".join("01"[point.count("1") >= 3] for point in points(5))
        listed = [change for change in changes(5) if slow_kind(text, change) in ("rise", "fall", "high", "low")]
        rows = [(text, row) for row in (listed[:40], listed[-40:], sample(1).sample(listed, 40), listed[200:208] * 5)]
        rows += [(other, (few * 40)[:40]) for other, few in barred_demands(5, 2, 5) + [(BARRED_15, TWO)]]
        met = set()
        for text, row in rows:
            demand = Demand(Table(text), row)
            self.assertEqual(len(demand), 40)
            ends = [self.slow_last(text, row, cube) for cube in slow_needed(text, row)]
            self.assertEqual([grown(demand, cube)[0] for cube in needed(demand)], ends)
            open_one = not any(has_off(text, last) for last in ends)
            met.add(open_one)
            self.assertEqual(barred(demand) is None, open_one)
            if open_one:
                self.assertEqual(grown_cover(demand), outer(ends))
                self.assertTrue(slow_fits(text, row, small_cover(demand)))
                self.says(True, is_cover_for(demand, grown_cover(demand)))
        self.assertEqual(met, {False, True})

    def slow_last(self, text, listed, cube):
        """The last cube of the growths: the least one that holds the cube and breaks no change."""
        around = [c for c in cubes(len(cube)) if inside(cube) <= inside(c) and slow_broken(text, listed, c) == []]
        return min(around, key=lambda c: len(inside(c)))


class Overview(Case):
    def test_new_lists(self):
        for demand in (Demand(Table(EXAMPLE)), Demand(Table("0111"), [("00", "11")]), Demand(Table("1" * 32))):
            for function in OF_A_DEMAND.values():
                self.is_new(function, demand)
            cover = grown_cover(demand) + good_primes(demand)
            for function in OF_A_COVER.values():
                self.is_new(function, demand, cover)
                self.is_new(function, demand, tuple(cover))
        self.is_new(least_covers, Demand(Table(*BARRED[:1]), BARRED[1]))
        self.is_new(least_covers, Demand(Table("0000")))

    def test_arguments_stay(self):
        demand = Demand(Table(EXAMPLE), [("000", "001")])
        cover = ["00-", "-00", "-11", "000"]
        for function in [*OF_A_COVER.values(), is_cover_for]:
            function(demand, cover)
        for function in [*OF_A_DEMAND.values(), least_size]:
            function(demand)
        self.assertEqual(cover, ["00-", "-00", "-11", "000"])
        self.assertEqual(demand, Demand(Table(EXAMPLE), [("000", "001")]))

    def test_where_the_names_stand(self):
        self.stands_in(module, ["is_cover_for", "least_size", *OF_A_DEMAND, *OF_A_COVER])


if __name__ == "__main__":
    unittest.main()
