"""burstshop.growth: promises [40] to [49], and [2] to [4] there."""

import itertools
import unittest

from burstshop import growth as module
from burstshop.errors import InvalidChange, InvalidCube
from burstshop.growth import Demand, barred, broken, good_primes, grown, is_bar, is_good, is_growth, needed
from burstshop.tables import Table
from tests.helper import (SIZES, Case, anything, barred_demands, changes, cubes, has_off, inside, is_int, names, points,
                          sample, signs_of, slow_barred, slow_broken, slow_good, slow_good_primes, slow_growths,
                          slow_kind, slow_needed, slow_span, some_demands, tables)

BARRED = Demand(Table("01010100"), [("011", "000"), ("101", "000")])
PLAIN = ("low", "high", "rise", "fall")
# All on but for one point; so it has many plain changes of several kinds.
WIDE = "1" * 15 + "0"
WIDE_CHANGES = [change for change in changes(4) if slow_kind(WIDE, change) in PLAIN]


def cases(n, many, most=5):
    return some_demands(n, many, n, most)


class Demands(Case):
    def test_what_it_holds(self):
        for n in SIZES:
            for text, listed in cases(n, 25, 8):
                for kind in (list, tuple):
                    demand = Demand(Table(text), kind(listed))
                    self.assertIsInstance(demand.table, Table)
                    self.assertEqual(demand.table, Table(text))
                    self.assertEqual(demand.changes, tuple(listed))
                    self.assertIs(type(demand.changes), tuple)
                    self.assertEqual(len(demand), len(listed))
                    for at, change in enumerate(listed):
                        self.assertEqual(demand[at], change)
                    for change in changes(n)[:60]:
                        self.says(change in listed, change in demand)

    def test_without_changes(self):
        for n in SIZES:
            demand = Demand(Table("01" * 2 ** (n - 1)))
            self.assertEqual((demand.changes, len(demand)), ((), 0))
            self.says(True, demand == Demand(Table("01" * 2 ** (n - 1)), []))
        demand = Demand(changes=[("0", "1")], table=Table("01"))
        self.assertEqual(demand.changes, (("0", "1"),))

    def test_a_change_may_stand_twice(self):
        demand = Demand(Table("0111"), [("00", "11"), ("00", "01"), ("00", "11")])
        self.assertEqual((len(demand), demand[0], demand[2]), (3, ("00", "11"), ("00", "11")))
        self.assertEqual((demand + ("00", "01")).changes[1:], (("00", "01"), ("00", "11"), ("00", "01")))

    def test_forty_changes_and_more(self):
        table = Table(WIDE)
        rows = (WIDE_CHANGES * 40)[:41]
        self.assertEqual(len(Demand(table, rows[:40])), 40)
        self.assertEqual(Demand(table, tuple(rows[:40])).changes, tuple(rows[:40]))
        self.refuses(InvalidChange, {"at": -1}, Demand, table, rows)
        self.refuses(InvalidChange, {"at": -1}, Demand, table, tuple(rows))
        self.refuses(InvalidChange, {"at": -1}, Demand, table, [None] * 41)
        self.refuses(InvalidChange, {"at": 39}, Demand, table, rows[:39] + [None])
        self.assertEqual(len(Demand(table, rows[:1] * 40)), 40)

    def test_what_is_no_list(self):
        for thing in anything() + [{("0", "1")}, {("0", "1"): 0}, "01", iter([("0", "1")])]:
            if not isinstance(thing, (list, tuple)):
                with self.subTest(thing=names(thing)):
                    self.refuses(InvalidChange, {"at": -1}, Demand, Table("01"), thing)

    def test_items_that_are_no_plain_changes(self):
        for n in SIZES:
            text = "0" * (2 ** n - 1) + "1"
            good = ("0" * n, "1" * n)
            wrong = [list(good), (good[0],), (good[0], good[0]), good + good, (good[0], "-" * n), good[0], (good,),
                     (good[0], "1" * (n + 1)), ("0" * (n - 1), "1" * (n - 1)), [good]]
            for thing in anything(39) + wrong:
                if isinstance(thing, tuple) and thing in changes(n):
                    continue
                with self.subTest(n=n, thing=names(thing)):
                    self.refuses(InvalidChange, {"at": 2}, Demand, Table(text), [good, good, thing, None])
                    self.refuses(InvalidChange, {"at": 0}, Demand, Table(text), (thing, good))
                    self.refuses(InvalidChange, {"at": 1}, lambda x: Demand(Table(text), (good,)) + x, thing)

    def test_changes_that_are_not_plain(self):
        for n in SIZES:
            for text in tables(n)[:60] if n <= 2 else [text for text, _ in cases(n, 12)]:
                pairs = changes(n) if n <= 2 else sample(n).sample(changes(n), 40)
                plain = [change for change in pairs if slow_kind(text, change) in PLAIN]
                for change in pairs:
                    if change in plain:
                        self.assertEqual(Demand(Table(text), [change])[0], change)
                        continue
                    self.refuses(InvalidChange, {"at": 0}, Demand, Table(text), [change, None])
                    if plain:
                        self.refuses(InvalidChange, {"at": 1}, Demand, Table(text), [plain[0], change, change])

    def test_any_value_in_a_demand(self):
        demand = Demand(Table("0111"), [("00", "11"), ("00", "01")])
        for thing in anything() + [["00", "11"], ("11", "00"), ("00", "11", "11"), "00", (("00", "11"),)]:
            with self.subTest(thing=names(thing)):
                self.says(isinstance(thing, tuple) and thing in [("00", "11"), ("00", "01")], thing in demand)
        self.says(True, ("00", "01") in demand)
        self.says(False, ("00", "11") in Demand(Table("0111")))

    def test_equality(self):
        rows = [Demand(Table(text), listed) for text, listed in cases(2, 20, 3)]
        rows += [Demand(Table("0111")), Demand(Table("01111111")), Demand(Table("0111"), [("00", "11")]),
                 Demand(Table("0111"), [("00", "11"), ("00", "01")]),
                 Demand(Table("0111"), [("00", "01"), ("00", "11")]),
                 Demand(Table("0111"), [("00", "11"), ("00", "11")]), Demand(Table("0011"), [("00", "11")])]
        for one in rows:
            for other in rows:
                same = one.table.text == other.table.text and one.changes == other.changes
                self.says(same, one == other)
                self.says(not same, one != other)
        self.says(True, Demand(Table("01"), [("0", "1")]) == Demand(Table("01"), (("0", "1"),)))

    def test_equal_to_no_other_value(self):
        demand = Demand(Table("0111"), [("00", "01")])
        for thing in anything() + [Table("0111"), (("00", "01"),), [("00", "01")], (Table("0111"), (("00", "01"),))]:
            with self.subTest(thing=names(thing)):
                self.says(False, demand == thing)
                self.says(True, demand != thing)
                self.assertFalse(thing == demand)

    def test_sum(self):
        for n in SIZES:
            for text, listed in cases(n, 20, 6):
                demand = Demand(Table(text))
                for at, change in enumerate(listed):
                    longer = demand + change
                    self.assertIsInstance(longer, Demand)
                    self.assertEqual((demand.changes, longer.changes), (tuple(listed[:at]), tuple(listed[:at + 1])))
                    self.assertEqual(longer.table, Table(text))
                    demand = longer
                self.refuses(InvalidChange, {"at": len(listed)}, lambda x: x + None, demand)

    def test_sum_with_a_wrong_change(self):
        demand = Demand(Table("0110"), [("00", "01")])
        for thing in [("00", "11"), ("00", "00"), ["00", "10"], ("0", "1"), None, 1, "00", [], ()] + anything():
            with self.subTest(thing=names(thing)):
                self.refuses(InvalidChange, {"at": 1}, lambda x: demand + x, thing)
        self.assertEqual(len(demand), 1)

    def test_sum_of_forty_and_one(self):
        demand = Demand(Table(WIDE), (WIDE_CHANGES * 40)[:39])
        full = demand + WIDE_CHANGES[0]
        self.assertEqual(len(full), 40)
        for thing in (WIDE_CHANGES[0], None, ("0", "1"), [1]):
            self.refuses(InvalidChange, {"at": -1}, lambda x: full + x, thing)
        self.refuses(InvalidChange, {"at": 39}, lambda x: demand + x, None)

    def test_only(self):
        for n in SIZES:
            for text, listed in cases(n, 10, 5):
                demand = Demand(Table(text), listed)
                for many in range(len(listed) + 1):
                    for numbers in itertools.combinations(range(len(listed)), many):
                        for kind in (list, tuple):
                            part = demand.only(kind(numbers))
                            self.assertIsInstance(part, Demand)
                            self.assertEqual(part.changes, tuple(listed[at] for at in numbers))
                            self.assertEqual(part.table, Table(text))
                self.assertEqual(demand.changes, tuple(listed))
        self.assertEqual(BARRED.only(numbers=[1]).changes, (("101", "000"),))

    def test_lists_are_not_kept(self):
        listed = [("00", "11"), ("00", "01")]
        demand = Demand(Table("0111"), listed)
        self.assertEqual(listed, [("00", "11"), ("00", "01")])
        listed.clear()
        self.assertEqual(len(demand), 2)
        numbers = [0]
        part = demand.only(numbers)
        numbers.append(1)
        self.assertEqual((len(part), numbers), (1, [0, 1]))


class GoodCubes(Case):
    def test_broken_and_good(self):
        met = set()
        for n in SIZES:
            for text, listed in cases(n, {1: 12, 2: 40, 3: 60, 4: 30, 5: 12}[n]):
                demand = Demand(Table(text), listed)
                for cube in cubes(n):
                    numbers = slow_broken(text, listed, cube)
                    met.add((n, numbers == [], has_off(text, cube)))
                    self.assertEqual(broken(demand, cube), numbers)
                    self.says(slow_good(text, listed, cube), is_good(demand, cube))
        # With one input, each cube that breaks a change has an off point.
        self.assertEqual(len(met), 19)

    def test_good_primes(self):
        for n in SIZES:
            for text, listed in cases(n, {1: 12, 2: 60, 3: 100, 4: 40, 5: 20}[n]):
                self.assertEqual(good_primes(Demand(Table(text), listed)), slow_good_primes(text, listed))

    def test_without_changes_the_good_primes_are_the_primes(self):
        for n in SIZES:
            for text, _ in cases(n, 15):
                self.assertEqual(good_primes(Demand(Table(text))), Table(text).primes())
        self.assertEqual(good_primes(demand=Demand(Table("0000"))), [])

    def test_a_good_prime_need_not_be_a_prime(self):
        # The prime -01 shares 001 with the cube of the fall and does not hold its start 011.
        demand = Demand(Table("01010100"), [("011", "000")])
        self.assertEqual(broken(demand, "-01"), [0])
        self.assertEqual(broken(cube="--1", demand=demand), [])
        self.says(False, is_good(demand, "-01"))
        self.says(False, is_good(cube="--1", demand=demand))
        self.assertEqual(good_primes(demand), ["0-1", "101"])

    def test_low_and_high_changes_are_broken_by_no_cube(self):
        demand = Demand(Table("0011"), [("00", "01"), ("10", "11"), ("11", "10")])
        for cube in cubes(2):
            self.assertEqual(broken(demand, cube), [])

    def test_wrong_cubes(self):
        for n in SIZES:
            demand = Demand(Table("01" * 2 ** (n - 1)))
            wrong = ["0" * (n - 1), "0" * (n + 1), "-" * (n + 1), "0" * (n - 1) + "x", ["0"] * n, ("0",) * n, b"0" * n]
            for thing in anything() + wrong:
                if isinstance(thing, str) and len(thing) == n and set(thing) <= set("01-"):
                    continue
                with self.subTest(n=n, thing=names(thing)):
                    self.refuses(InvalidCube, {"at": 1}, broken, demand, thing)
                    self.refuses(InvalidCube, {"at": 1}, is_good, demand, thing)
                    self.refuses(InvalidCube, {"at": 1}, grown, demand, thing)
                    self.refuses(InvalidCube, {"at": 1}, is_growth, demand, thing, ("0" * n, []))
                    self.refuses(InvalidCube, {"at": 1}, is_growth, demand, thing, None)


class Growth(Case):
    def test_grown_takes_the_least_number(self):
        most = 0
        for n in SIZES:
            for text, listed in cases(n, {1: 12, 2: 40, 3: 60, 4: 30, 5: 12}[n], 6):
                demand = Demand(Table(text), listed)
                for cube in cubes(n):
                    last, steps = slow_growths(text, listed, cube)[0]
                    answer = grown(demand, cube)
                    self.assertEqual(answer, (last, steps))
                    self.assertEqual([type(answer), type(answer[1])], [tuple, list])
                    for step in answer[1]:
                        self.assertIs(type(step), tuple)
                        self.assertTrue(is_int(step[0]))
                    most = max(most, len(steps))
        self.assertGreaterEqual(most, 3)

    def test_facts_of_growths(self):
        for n in SIZES:
            for text, listed in cases(n, {1: 12, 2: 40, 3: 50, 4: 20, 5: 8}[n], 6):
                demand = Demand(Table(text), listed)
                for cube in cubes(n)[::1 if n < 4 else 5]:
                    last, steps = grown(demand, cube)
                    numbers = [number for number, _ in steps]
                    self.assertLessEqual(len(steps), len(listed))
                    self.assertEqual(len(set(numbers)), len(numbers))
                    self.assertEqual({row[0] for row in slow_growths(text, listed, cube)}, {last})
                    for around in cubes(n):
                        if inside(cube) <= inside(around) and broken(demand, around) == []:
                            self.assertLessEqual(inside(last), inside(around))

    def test_off_points_do_not_stop_a_growth(self):
        self.assertEqual(grown(BARRED, "-01"), ("--1", [(0, "--1")]))
        self.assertEqual(grown(cube="000", demand=BARRED), ("---", [(0, "0--"), (1, "---")]))
        self.assertEqual(grown(BARRED, "111"), ("111", []))

    def test_is_growth_accepts_each_growth(self):
        for n in SIZES:
            for text, listed in cases(n, {1: 12, 2: 40, 3: 50, 4: 20, 5: 8}[n], 6):
                demand = Demand(Table(text), listed)
                for cube in cubes(n)[::1 if n < 4 else 5]:
                    for last, steps in slow_growths(text, listed, cube)[:6]:
                        self.says(True, is_growth(demand, cube, (last, steps)))
                        self.says(True, is_growth(demand, cube, (last, tuple(steps))))

    def test_is_growth_refuses_what_is_almost_one(self):
        source = sample(1)
        for n in (1, 2, 3, 4):
            for text, listed in cases(n, 30, 6):
                demand = Demand(Table(text), listed)
                for cube in cubes(n)[::1 if n < 4 else 6]:
                    rows = slow_growths(text, listed, cube)
                    last, steps = source.choice(rows)
                    for thing in self.almost(n, source, last, steps):
                        right = isinstance(thing[1], (list, tuple)) and (thing[0], list(thing[1])) in rows
                        self.says(right, is_growth(demand, cube, thing))

    def almost(self, n, source, last, steps):
        rows = [(last, steps[:-1]), (last, steps[1:]), (last, steps[::-1]), (last, steps + steps[-1:]),
                (source.choice(cubes(n)), steps), (None, steps), ([last], steps), (last, [(0, last)] + steps),
                (last, {step[0]: step[1] for step in steps} or None), (last, None), (None, None), (None, [(0, last)])]
        for at, (number, cube) in enumerate(steps):
            for step in ((number, source.choice(cubes(n))), (number + 1, cube), (number - 1, cube), (-1, cube)):
                rows.append((last, steps[:at] + [step] + steps[at + 1:]))
        return rows

    def test_kinds_within_a_growth(self):
        demand = BARRED
        right = ("--1", [(0, "--1")])
        self.says(True, is_growth(demand, "-01", right))
        self.says(True, is_growth(thing=("--1", ((0, "--1"),)), cube="-01", demand=demand))
        wrong = [["--1", [(0, "--1")]], ("--1", [[0, "--1"]]), ("--1", [(False, "--1")]), ("--1", [(0.0, "--1")]),
                 ("--1", [("0", "--1")]), ("--1", [(0, "--1", 0)]), ("--1", [(0,)]), ("--1", {(0, "--1")}),
                 ("--1", [(0, ["--1"])]), ("--1", [(0, "---")]), ("---", [(0, "--1")]), ("--1", [(1, "--1")]),
                 ("-01", []), ("-01", ()), ("--1", []), ("--1", [(0, "--1")], 0), ("--1",), "--1", right[1], None,
                 ("--1", {0: "--1"}), ("--1", iter([(0, "--1")])), (b"--1", [(0, "--1")]), ("--1", [(0, b"--1")]),
                 ("--1", [(0, "--1"), (0, "--1")]), ("---", [(0, "--1"), (1, "---")]), ("--1", [(-2, "--1")]),
                 ("--1", [(2, "--1")]), ("--1", [(10 ** 30, "--1")])]
        for thing in wrong:
            with self.subTest(thing=names(thing)):
                self.says(False, is_growth(demand, "-01", thing))
        # 1.0 and True count like the number 1, but are no integers.
        self.says(True, is_growth(demand, "0-1", ("--1", [(1, "--1")])))
        for number in (True, 1.0):
            self.says(False, is_growth(demand, "0-1", ("--1", [(number, "--1")])))

    def test_a_growth_without_steps(self):
        for n in SIZES:
            demand = Demand(Table("01" * 2 ** (n - 1)))
            for cube in cubes(n)[::7]:
                self.says(True, is_growth(demand, cube, (cube, [])))
                self.says(True, is_growth(demand, cube, (cube, ())))
                self.says(False, is_growth(demand, cube, [cube, []]))
                self.says(False, is_growth(demand, cube, (cube, "")))
                self.says(False, is_growth(demand, cube, ("1" * (n + 1), [])))

    def test_any_value(self):
        for thing in anything(20):
            with self.subTest(thing=names(thing)):
                self.says(False, is_growth(BARRED, "-01", thing))
                self.says(False, is_bar(BARRED, thing))
        for thing in anything(17):
            with self.subTest(thing=names(thing)):
                self.says(False, is_growth(BARRED, "-01", (thing, [(0, "--1")])))
                self.says(False, is_growth(BARRED, "-01", (thing, [])))
                self.says(False, is_growth(BARRED, "-01", (thing, None)))
                self.says(False, is_growth(BARRED, "-01", (thing, thing)))
                self.says(False, is_growth(BARRED, "-01", ("--1", thing)))
                self.says(False, is_growth(BARRED, "-01", ("--1", [thing])))
                self.says(False, is_growth(BARRED, "-01", ("--1", [(0, thing)])))
                self.says(is_int(thing) and thing == 0, is_growth(BARRED, "-01", ("--1", [(thing, "--1")])))
                self.says(False, is_bar(BARRED, (thing, [(0, "--1")], "111")))
                self.says(False, is_bar(BARRED, ("-01", thing, "111")))
                self.says(False, is_bar(BARRED, ("-01", thing, thing)))
                self.says(False, is_bar(BARRED, ("-01", [thing], "111")))
                self.says(False, is_bar(BARRED, ("-01", [(0, "--1")], thing)))


class Needed(Case):
    def test_needed(self):
        for n in SIZES:
            for text, listed in cases(n, {1: 12, 2: 80, 3: 100, 4: 60, 5: 30}[n], 6):
                self.assertEqual(needed(Demand(Table(text), listed)), slow_needed(text, listed))

    def test_without_changes_the_on_points_are_needed(self):
        for n in SIZES:
            for text, _ in cases(n, 10):
                self.assertEqual(needed(Demand(Table(text))), Table(text).ons())
        self.assertEqual(needed(demand=Demand(Table("-0"))), [])

    def test_each_kind_of_change(self):
        self.assertEqual(needed(Demand(Table("1111"), [("00", "11")])), ["--"])
        self.assertEqual(needed(Demand(Table("1110"), [("00", "11")])), ["-0", "0-"])
        self.assertEqual(needed(Demand(Table("0111"), [("00", "11")])), ["-1", "1-"])
        self.assertEqual(needed(Demand(Table("0011"), [("00", "01")])), ["10", "11"])
        self.assertEqual(needed(Demand(Table("0011"), [("10", "11"), ("10", "11")])), ["1-"])
        self.assertEqual(needed(Demand(Table("0011"), [("00", "11")])), ["1-"])
        self.assertEqual(needed(Demand(Table("1100"), [("00", "11")])), ["0-"])


class Bars(Case):
    def test_barred(self):
        met = set()
        for n in SIZES:
            for text, listed in self.demands(n):
                demand = Demand(Table(text), listed)
                answer = barred(demand)
                met.add((n > 2, answer is None))
                offs = [cube for cube in slow_needed(text, listed)
                        if has_off(text, slow_growths(text, listed, cube)[0][0])]
                if not offs:
                    self.assertIsNone(answer)
                    continue
                last, steps = slow_growths(text, listed, offs[0])[0]
                signs = signs_of(text)
                least = min(point for point in inside(last) if signs[point] == "0")
                self.assertEqual(answer, (offs[0], steps, least))
                self.assertEqual([type(answer), type(answer[1])], [tuple, list])
                self.says(True, is_bar(demand, answer))
        self.assertIn((True, False), met)
        self.assertIn((True, True), met)

    def demands(self, n):
        rows = cases(n, {1: 12, 2: 60, 3: 80, 4: 40, 5: 20}[n], 8)
        if n >= 3:
            rows += barred_demands(n, {3: 20, 4: 8, 5: 3}[n], n)
            # The example, with inputs in front that play no part in it.
            pad = "0" * (n - 3)
            text = "01010100" + "".join(sample(n).choice("01-") for _ in range(2 ** n - 8))
            rows.append((text, [(pad + "011", pad + "000"), (pad + "101", pad + "000")]))
        return rows

    def test_is_bar_accepts_each_bar_and_no_other(self):
        many = 0
        for n in (3, 4):
            for text, listed in self.demands(n)[-24 if n == 3 else -6:]:
                demand = Demand(Table(text), listed)
                rows = slow_needed(text, listed)
                for cube in cubes(n) if n == 3 else rows + cubes(n)[::9]:
                    for last, steps in slow_growths(text, listed, cube)[:4]:
                        for point in points(n):
                            right = cube in rows and point in inside(last) and signs_of(text)[point] == "0"
                            many += right
                            self.says(right, is_bar(demand, (cube, steps, point)))
                            self.says(right, is_bar(demand, (cube, tuple(steps), point)))
                            if steps:
                                self.says(False, is_bar(demand, (cube, steps[:-1], point)))
        self.assertGreater(many, 20)

    def test_the_example(self):
        self.assertEqual(needed(BARRED), ["-01", "0-1"])
        self.assertEqual(barred(BARRED), ("-01", [(0, "--1")], "111"))
        self.assertIsNone(barred(BARRED.only([0])))
        self.assertIsNone(barred(BARRED.only([1])))
        self.says(True, is_bar(BARRED, ("-01", [(0, "--1")], "111")))
        self.says(True, is_bar(thing=("0-1", ((1, "--1"),), "111"), demand=BARRED))
        self.assertEqual(barred(demand=BARRED)[0], "-01")

    def test_what_is_almost_a_bar(self):
        for thing in (("-01", [(0, "--1")], "011"), ("-01", [(1, "--1")], "111"), ("0-1", [(0, "--1")], "111"),
                      ("001", [], "111"), ("-01", [], "111"), ("-01", [], "101"), ["-01", [(0, "--1")], "111"],
                      ("-01", [[0, "--1"]], "111"), ("-01", [(False, "--1")], "111"), ("-01", [(0, "--1")]),
                      ("-01", [(0, "--1")], "111", 0), ("-01", [(0, "--1")], "11-"), ("-01", [(0, "--1")], "000"),
                      ("-01", ("--1", [(0, "--1")]), "111"), ("-01", [(0, "--1")], ["111"]), ("--1", [], "111"),
                      ("001", [(0, "0-1"), (1, "--1")], "111"), ("-01", [(0, "--1"), (0, "--1")], "111")):
            with self.subTest(thing=names(thing)):
                self.says(False, is_bar(BARRED, thing))
                self.says(False, is_bar(BARRED.only([0]), thing))

    def test_nothing_is_needed_of_a_table_without_on_points(self):
        for n in SIZES:
            for sign in "0-":
                demand = Demand(Table(sign * 2 ** n))
                self.assertEqual((needed(demand), barred(demand)), ([], None))

    def test_the_slow_answer(self):
        self.assertTrue(slow_barred("01010100", [("011", "000"), ("101", "000")]))
        self.assertFalse(slow_barred("01010100", [("011", "000")]))


class Overview(Case):
    def test_new_lists(self):
        for demand in (BARRED, BARRED.only([0]), Demand(Table("1111"), [("00", "11")])):
            self.is_new(good_primes, demand)
            self.is_new(needed, demand)
            self.is_new(broken, demand, "0" * demand.table.n)
            for function, rest in ((grown, ["0" * demand.table.n]), (barred, [])):
                before = function(demand, *rest)
                if before is not None:
                    before[1].append("more")
                    self.assertEqual(function(demand, *rest)[1], before[1][:-1])

    def test_arguments_stay(self):
        steps = [(0, "--1")]
        is_growth(BARRED, "-01", ("--1", steps))
        is_bar(BARRED, ("-01", steps, "111"))
        self.assertEqual(steps, [(0, "--1")])
        for function in (good_primes, needed, barred):
            function(BARRED)
        self.assertEqual(BARRED.changes, (("011", "000"), ("101", "000")))
        self.assertEqual(BARRED.table, Table("01010100"))

    def test_where_the_names_stand(self):
        self.stands_in(module, ["Demand", "broken", "good_primes", "needed", "is_good", "grown", "is_growth", "barred",
                                "is_bar"])
        for name in ("__init__", "__len__", "__getitem__", "__contains__", "__eq__", "__add__", "only"):
            self.assertIn(name, vars(Demand))


if __name__ == "__main__":
    unittest.main()
