"""burstshop.covers: promises [23] to [30], and [2] to [4] there."""

import inspect
import itertools
import unittest

from burstshop import covers as module
from burstshop.covers import (calm, covered, flicker, is_cover, is_order, longest, longest_order, misfit, orders,
                              played, product_words, why, wires)
from burstshop.errors import InvalidChange, InvalidCover, InvalidOrder, InvalidPoint, LimitExceeded
from burstshop.tables import Table
from tests.helper import (SIZES, Case, anything, changes, cubes, inside, longest_by_subsets, names, points, sample,
                          slow_covered, slow_is_cover, slow_longest, slow_misfit, slow_product_word, slow_span,
                          slow_wires, slow_word, some_tables, tables, too_long)

ON_A_CHANGE = {
    "wires": wires, "longest": longest, "product_words": product_words, "longest_order": longest_order,
    "flicker": flicker, "calm": calm, "why": why,
}


def some_cover(n, source, many):
    """A cover of so many cubes, with equal ones and ones without literals now and then."""
    pool = [source.choice(cubes(n)) for _ in range(max(1, many - source.randint(0, 1)))]
    if source.randint(0, 9) == 0:
        pool.append("-" * n)
    return [source.choice(pool) for _ in range(many)]


def cases(n, many, most, seed=0):
    """Pairs of a change and a cover."""
    source = sample(10 * n + seed)
    rows = [(change, []) for change in changes(n)[:3]]
    while len(rows) < many:
        rows.append((source.choice(changes(n)), some_cover(n, source, source.randint(1, most))))
    return rows


def small_cases(n, many, wires_at_most):
    """Pairs of a change and a cover with at most so many wires."""
    return [row for row in cases(n, many, 4, 5) if len(slow_wires(*row)) <= wires_at_most]


def slow_fault(rows, thing):
    """Where thing is no order of these wires, or None, by the words of [29]."""
    if not isinstance(thing, (list, tuple)):
        return -1
    for at, item in enumerate(thing):
        if not isinstance(item, tuple) or [type(part) for part in item] != [int, int]:
            return at
        if item not in rows or item in thing[:at]:
            return at
    return len(thing) if len(thing) < len(rows) else None


def slow_why(change, cover):
    """The words of [28]."""
    start, end = change
    room = inside(slow_span(start, end))
    a, b = slow_covered(start, cover), slow_covered(end, cover)
    meeting = [j for j in range(len(cover)) if inside(cover[j]) & room]
    if a and b:
        return None if any(room <= inside(product) for product in cover) else ("alone",)
    if b:
        meeting = [j for j in meeting if end not in inside(cover[j])]
    if a:
        meeting = [j for j in meeting if start not in inside(cover[j])]
    return ("meets", meeting[0]) if meeting else None


def wrong_covers(n):
    """Pairs of a value that is no cover of n inputs and the number that its error carries."""
    good = "-" * n
    rows = [([good] * 101, -1), ((good,) * 101, -1), ([None] * 101, -1), (good, -1), ({good}, -1), ({good: good}, -1),
            (iter([good]), -1), ([good, good, "0" * (n + 1)], 2), (["0" * (n - 1)], 0), ([good] * 99 + [""], 99),
            ((good, "x" * n, None), 1), ([[good]], 0), ([list(good)], 0), ([good, b"0" * n], 1), ((None, good), 0)]
    for thing in anything():
        if not isinstance(thing, (list, tuple)) or len(thing) > 100:
            rows.append((thing, -1))
        elif not slow_is_cover(thing, n):
            rows.append((thing, [slow_is_cover([item], n) for item in thing].index(False)))
    for thing in anything(39):
        if not (isinstance(thing, str) and len(thing) == n and set(thing) <= set("01-")):
            rows.append(([good, good, thing, thing], 2))
            rows.append(((thing, "x"), 0))
    return rows


class Covers(Case):
    def test_is_cover(self):
        for n in SIZES:
            source = sample(n)
            for many in (0, 1, 2, 5, 99, 100):
                cover = [source.choice(cubes(n)) for _ in range(many)]
                self.says(True, is_cover(cover, n))
                self.says(True, is_cover(tuple(cover), n))
                self.says(many == 0, is_cover(cover, n + 1 if n < 5 else 1))
            self.says(True, is_cover(["0" * n] * 100, n))
            self.says(False, is_cover(["0" * n] * 101, n))
            for thing, _ in wrong_covers(n):
                with self.subTest(n=n, thing=names(thing)):
                    self.says(False, is_cover(thing, n))
            for thing in anything():
                with self.subTest(n=n, thing=names(thing)):
                    self.says(slow_is_cover(thing, n), is_cover(thing, n))
        self.says(True, is_cover(n=2, thing=["0-"]))

    def test_covered(self):
        for n in SIZES:
            for _, cover in cases(n, 40, 6):
                for point in points(n):
                    self.says(slow_covered(point, cover), covered(point, cover))
                    self.says(slow_covered(point, cover), covered(point, tuple(cover)))
            self.says(False, covered("0" * n, []))
            self.says(True, covered("0" * n, ["-" * n]))
            self.says(True, covered("1" * n, ["0" * n] * 99 + ["1" * n]))
        self.says(True, covered(cover=["1-"], point="10"))

    def test_covered_of_what_is_no_point(self):
        for thing in anything() + ["", "000000", "0-", "-", "0x", ["0"], ("0",), b"0", 0, True]:
            if isinstance(thing, str) and 1 <= len(thing) <= 5 and set(thing) <= set("01"):
                continue
            with self.subTest(thing=names(thing)):
                self.refuses(InvalidPoint, {"at": 0}, covered, thing, ["0"])
                self.refuses(InvalidPoint, {"at": 0}, covered, thing, None)

    def test_misfit(self):
        met = set()
        for n in SIZES:
            texts = tables(n) if n <= 1 else some_tables(n, 30, n)
            for text in texts:
                ons = [point for point, sign in zip(points(n), text) if sign == "1"]
                covers = [cover for _, cover in cases(n, 12, 4)] + [[], ons, ons[1:], ons + ["-" * n]]
                for cover in covers:
                    met.add((n, slow_misfit(text, cover) is None))
                    self.assertEqual(misfit(Table(text), cover), slow_misfit(text, cover))
                    self.assertEqual(misfit(Table(text), tuple(cover)), slow_misfit(text, cover))
        self.assertEqual(len(met), 10)
        self.assertEqual(misfit(cover=["1-"], table=Table("0-1-")), None)
        self.assertEqual(misfit(Table("0110"), ["--"]), "00")
        self.assertEqual(misfit(Table("0110"), ["01"]), "10")
        self.assertIsNone(misfit(Table("----"), ["0-", "11"]))


class Wires(Case):
    def test_wires(self):
        for n in SIZES:
            for change, cover in cases(n, 60, 8):
                self.assertEqual(wires(change, cover), slow_wires(change, cover))
                self.assertEqual(wires(change, tuple(cover)), slow_wires(change, cover))
        self.assertEqual(wires(("000", "101"), ["0-1", "-0-", "0-1"]), [(0, 0), (0, 2), (2, 0), (2, 2)])
        self.assertEqual(wires(("00000", "11111"), ["-----"] * 100), [])
        self.assertEqual(len(wires(cover=["01010"] * 100, change=("00000", "11111"))), 500)

    def test_is_order_and_played_on_all_rows_of_wires(self):
        rows = [(("00", "11"), ["0-", "-1"]), (("00", "11"), ["01"]), (("01", "11"), ["0-", "1-", "-1"]),
                (("0", "1"), ["1", "1"]), (("0", "1"), []), (("000", "110"), ["1-1", "-0-"])]
        for change, cover in rows:
            known = slow_wires(change, cover)
            items = known + [(5, 0), (0, 5), (0, -1), (2, 1)]
            for many in range(len(known) + 2):
                for row in itertools.product(items, repeat=many):
                    self.judge_order(change, cover, list(row))

    def judge_order(self, change, cover, row):
        fault = slow_fault(slow_wires(change, cover), row)
        self.says(fault is None, is_order(change, cover, row))
        if fault is None:
            self.assertEqual(played(change, cover, row), slow_word(change, cover, row))
            self.assertEqual(played(change, cover, tuple(row)), slow_word(change, cover, row))
        else:
            self.refuses(InvalidOrder, {"at": fault}, played, change, cover, row)

    def test_orders_of_large_covers(self):
        for n in SIZES:
            source = sample(n)
            for change, cover in cases(n, 12, 20):
                row = slow_wires(change, cover)
                source.shuffle(row)
                self.judge_order(change, cover, row)
                self.judge_order(change, cover, row[:-1])
                self.judge_order(change, cover, row + row[:1])

    def test_a_hundred_products(self):
        change = ("00000", "11111")
        cover = ["01010", "10101"] * 50
        row = slow_wires(change, cover)
        self.assertEqual(played(change, cover, row), slow_word(change, cover, row))
        self.refuses(InvalidOrder, {"at": 499}, played, change, cover, row[:-1])

    def test_what_is_no_wire(self):
        change, cover = ("00", "11"), ["0-", "-1", "--"]
        for thing in anything(39) + [[0, 0], (0,), (0, 0, 0), (False, 0), (0, False), (0.0, 0), (0, 0.0), (1, True),
                                   (True, True), ((0, 0),), (0, 1), (2, 0), (2, 1), (3, 0), (-1, 1), (0, -2), "00"]:
            fault = slow_fault([(0, 0), (1, 1)], [thing, (1, 1)])
            with self.subTest(thing=names(thing)):
                self.says(fault is None, is_order(change, cover, [thing, (1, 1)]))
                self.says(fault is None, is_order(change, cover, ((1, 1), thing)))
                if fault is not None:
                    self.refuses(InvalidOrder, {"at": 0}, played, change, cover, (thing, (1, 1)))
                    self.refuses(InvalidOrder, {"at": 1}, played, change, cover, [(1, 1), thing, thing])

    def test_what_is_no_order(self):
        change, cover = ("00", "11"), ["0-", "-1"]
        for thing in anything() + [{(0, 0), (1, 1)}, {(0, 0): 0, (1, 1): 0}, iter([(0, 0), (1, 1)])]:
            with self.subTest(thing=names(thing)):
                fault = slow_fault([(0, 0), (1, 1)], thing)
                self.says(False, is_order(change, cover, thing))
                self.refuses(InvalidOrder, {"at": fault}, played, change, cover, thing)
        self.refuses(InvalidOrder, {"at": 0}, played, change, cover, [])
        self.refuses(InvalidOrder, {"at": 1}, played, change, cover, [(0, 0)])
        self.refuses(InvalidOrder, {"at": 1}, played, change, cover, [(0, 0), (0, 0), (1, 1)])
        self.refuses(InvalidOrder, {"at": 2}, played, change, cover, [(0, 0), (1, 1), (0, 0)])
        self.assertEqual(played(order=[], cover=[], change=("0", "1")), "0")
        self.says(True, is_order(thing=(), cover=["-"], change=("0", "1")))

    def test_products_without_literals_are_always_1(self):
        for n in SIZES:
            for change in changes(n)[:6]:
                self.assertEqual(played(change, ["-" * n], []), "1")
                cover = ["-" * n, "0" * n]
                self.assertEqual(played(change, cover, slow_wires(change, cover)), "1")


class Words(Case):
    def test_the_slow_answers_agree(self):
        for n in SIZES:
            for change, cover in small_cases(n, 40, 5):
                words = [slow_word(change, cover, row) for row in itertools.permutations(slow_wires(change, cover))]
                most = max(words, key=len)
                self.assertEqual({(word[0], word[-1]) for word in words}, {(most[0], most[-1])})
                self.assertEqual(longest_by_subsets(change, cover), most)
                self.assertEqual(slow_longest(change, cover), most)

    def test_longest_among_all_orders(self):
        for n in SIZES:
            for change, cover in small_cases(n, 60, 5):
                words = [played(change, cover, row) for row in itertools.permutations(slow_wires(change, cover))]
                most = longest(change, cover)
                self.assertIn(most, words)
                for word in words:
                    self.assertEqual((word[0], word[-1]), (most[0], most[-1]))
                    self.assertLessEqual(len(word), len(most))

    def test_longest_of_more_wires(self):
        for n in SIZES:
            for change, cover in cases(n, 30, 5, 1):
                if len(slow_wires(change, cover)) <= 9:
                    self.assertEqual(longest(change, cover), longest_by_subsets(change, cover))
            for change, cover in cases(n, 60, 30, 2):
                self.assertEqual(longest(change, cover), slow_longest(change, cover))
                self.assertEqual(longest(change, tuple(cover)), slow_longest(change, cover))

    def test_longest_at_the_edges(self):
        change = ("00", "11")
        self.assertEqual(longest(change, []), "0")
        self.assertEqual(longest(change, ["--"]), "1")
        self.assertEqual(longest(change, ["01"] * 100), "01" * 100 + "0")
        self.assertEqual(longest(change, ["0-"] + ["01", "10"] * 49 + ["1-"]), "10" * 99 + "1")
        self.assertEqual(longest(change, ["01"] * 99 + ["--"]), "1")
        self.assertEqual(longest(cover=["0-"] * 100, change=change), "10")

    def test_product_words(self):
        for n in SIZES:
            for change, cover in cases(n, 60, 8):
                rows = [slow_product_word(change, product) for product in cover]
                self.assertEqual(product_words(change, cover), rows)
                self.assertEqual(product_words(change, tuple(cover)), rows)
        for n in (1, 2, 3):
            for change in changes(n):
                rows = [slow_product_word(change, product) for product in cubes(n)]
                self.assertEqual(product_words(change, cubes(n)), rows)
        self.assertEqual(product_words(cover=["-1", "01"], change=("00", "11")), ["01", "010"])

    def test_a_single_product_has_one_of_five_words(self):
        for n in (1, 2, 3):
            for change in changes(n):
                for product in cubes(n):
                    rows = itertools.permutations(slow_wires(change, [product]))
                    words = {played(change, [product], row) for row in rows}
                    self.assertTrue(len(words) == 1 and words < {"0", "1", "01", "10"} or words == {"0", "010"})

    def test_the_worked_example(self):
        change = ("00", "11")
        cover = ["0-", "-1"]
        self.assertEqual([product_words(change, cover), longest(change, cover), why(change, cover),
                          why(change, cover + ["--"])], [["10", "01"], "101", ("alone",), None])


class Orders(Case):
    def judge_longest(self, change, cover, row):
        """Accept each order with the longest word, and nothing else."""
        self.assertIs(type(row), list)
        self.assertIsNone(slow_fault(slow_wires(change, cover), row))
        self.assertEqual(slow_word(change, cover, row), slow_longest(change, cover))

    def judge_flicker(self, change, cover, row):
        """Accept None for a calm cover, and otherwise each order whose word is longer than needed."""
        if not too_long(slow_longest(change, cover)):
            self.assertIsNone(row)
            return
        self.assertIs(type(row), list)
        self.assertIsNone(slow_fault(slow_wires(change, cover), row))
        self.assertTrue(too_long(slow_word(change, cover, row)))

    def test_the_judges(self):
        for change, cover in ((("00", "11"), ["01"]), (("00", "11"), ["0-", "-1"]), (("00", "11"), ["01", "1-"])):
            known = slow_wires(change, cover)
            for row in itertools.permutations(known):
                word = slow_word(change, cover, row)
                self.accepts(word == slow_longest(change, cover), self.judge_longest, change, cover, list(row))
                self.accepts(too_long(word), self.judge_flicker, change, cover, list(row))
            for row in (None, [], known[:1], known + known[:1], tuple(known), [[0, 0], [0, 1]]):
                self.accepts(False, self.judge_longest, change, cover, row)
                self.accepts(False, self.judge_flicker, change, cover, row)
        self.accepts(True, self.judge_flicker, ("00", "11"), ["11"], None)
        self.accepts(False, self.judge_flicker, ("00", "11"), ["11"], [(0, 0), (0, 1)])

    def accepts(self, right, judge, *answer):
        if right:
            judge(*answer)
        else:
            with self.assertRaises(AssertionError):
                judge(*answer)

    def test_longest_order_and_flicker(self):
        met = set()
        for n in SIZES:
            for change, cover in cases(n, 70, 8) + [(changes(n)[-1], cubes(n)[-12:])]:
                for kind in (list, tuple):
                    self.judge_longest(change, cover, longest_order(change, kind(cover)))
                    self.judge_flicker(change, cover, flicker(change, kind(cover)))
                met.add((n, flicker(change, cover) is None))
        self.assertEqual(len(met), 10)

    def test_a_hundred_products(self):
        change = ("00000", "11111")
        for cover in (["01010", "10101"] * 50, ["0----"] * 50 + ["----1"] * 50,
                      ["0---1", "00000", "11---", "01---"] * 25):
            self.judge_longest(change, cover, longest_order(change, cover))
            self.judge_flicker(change, cover, flicker(change, cover))

    def test_by_name(self):
        self.assertEqual(longest_order(cover=["--"], change=("00", "11")), [])
        self.assertIsNone(flicker(cover=["--"], change=("00", "11")))
        self.says(True, calm(cover=["--"], change=("00", "11")))
        self.assertIsNone(why(cover=["--"], change=("00", "11")))

    def test_calm(self):
        for n in SIZES:
            for change, cover in small_cases(n, 50, 5):
                words = [slow_word(change, cover, row) for row in itertools.permutations(slow_wires(change, cover))]
                self.says(not any(too_long(word) for word in words), calm(change, cover))
            for change, cover in cases(n, 60, 8):
                self.says(not too_long(slow_longest(change, cover)), calm(change, cover))
                self.says(calm(change, cover), calm(change, tuple(cover)))

    def test_why(self):
        met = set()
        for n in SIZES:
            for change, cover in cases(n, 150, 6):
                answer = why(change, cover)
                met.add(answer)
                self.assertEqual(answer, slow_why(change, cover))
                self.assertEqual(why(change, tuple(cover)), answer)
                self.assertEqual(answer is None, calm(change, cover))
        self.assertLess({None, ("alone",), ("meets", 0), ("meets", 1), ("meets", 2)}, met)

    def test_why_at_the_edges(self):
        change = ("00", "11")
        self.assertIsNone(why(change, []))
        self.assertIsNone(why(change, ["11", "-1", "1-", "11"]))
        self.assertIsNone(why(change, ["00", "0-", "-0"]))
        self.assertEqual(why(change, ["01"] * 100), ("meets", 0))
        self.assertEqual(why(change, ["11"] * 99 + ["10"]), ("meets", 99))
        self.assertEqual(why(change, ["0-", "01", "10"]), ("meets", 1))
        self.assertEqual(why(change, ["0-", "1-", "01"]), ("alone",))
        self.assertEqual(why(("000", "110"), ["--1", "0-1", "01-", "10-"]), ("meets", 2))

    def test_orders(self):
        for n in SIZES:
            rows = small_cases(n, 30, 4) + [row for row in cases(n, 200, 4, 5) if len(slow_wires(*row)) == 6][:2]
            for change, cover in rows:
                found = list(orders(change, cover))
                self.assertEqual(found, [list(row) for row in itertools.permutations(slow_wires(change, cover))])
                self.assertEqual({type(row) for row in found}, {list})
        self.assertEqual(list(orders(("0", "1"), [])), [[]])
        self.assertEqual(list(orders(("0", "1"), ["-"] * 100)), [[]])
        self.assertEqual(list(orders(cover=["0-", "-1"], change=("00", "11"))), [[(0, 0), (1, 1)], [(1, 1), (0, 0)]])

    def test_six_wires_and_seven(self):
        rows = list(orders(("0", "1"), ("0", "1") * 3))
        self.assertEqual((len(rows), rows[0]), (720, [(j, 0) for j in range(6)]))
        self.assertEqual(rows[-1], [(5 - j, 0) for j in range(6)])
        for cover in (["0"] * 7, ["1"] * 100):
            row = orders(("0", "1"), cover)
            self.refuses(LimitExceeded, {"limit": 6}, next, row)
        self.refuses(LimitExceeded, {"limit": 6}, list, orders(("000", "111"), ["010", "01-", "00-"]))

    def test_orders_is_a_generator_whose_errors_come_when_it_begins(self):
        self.assertTrue(inspect.isgenerator(orders(("0", "1"), ["0"])))
        row = orders("01", ["0"] * 101)
        self.refuses(InvalidChange, {"at": -1}, next, row)
        row = orders(("0", "1"), ["0"] * 7 + ["x"])
        self.refuses(InvalidCover, {"at": 7}, next, row)
        row = orders(("0", "1"), ["0"] * 101)
        self.refuses(InvalidCover, {"at": -1}, next, row)

    def test_what_is_done_to_a_list_of_orders(self):
        cover = ["0-", "-1"]
        row = orders(("00", "11"), cover)
        first = next(row)
        first.clear()
        cover.clear()
        self.assertEqual(list(row), [[(1, 1), (0, 0)]])


class WrongArguments(Case):
    def test_covers(self):
        for n in SIZES:
            change = ("0" * n, "1" * n)
            table = Table("01" * 2 ** (n - 1))
            for thing, at in wrong_covers(n):
                with self.subTest(n=n, thing=names(thing)):
                    for function in ON_A_CHANGE.values():
                        self.refuses(InvalidCover, {"at": at}, function, change, thing)
                    self.refuses(InvalidCover, {"at": at}, covered, "0" * n, thing)
                    self.refuses(InvalidCover, {"at": at}, misfit, table, thing)
                    self.refuses(InvalidCover, {"at": at}, is_order, change, thing, [])
                    self.refuses(InvalidCover, {"at": at}, played, change, thing, None)
                    self.refuses(InvalidCover, {"at": at}, list, orders(change, thing))

    def test_changes(self):
        right = {change for n in SIZES for change in changes(n)}
        for thing in anything() + [["0", "1"], ("0", "0"), ("0", "11"), ("", "0"), ("0" * 6, "1" * 6), ("0", "-"), "01",
                                   ("0", "1", "0"), ("0",), ("0", ["1"])]:
            if isinstance(thing, tuple) and thing in list(right):
                continue
            with self.subTest(thing=names(thing)):
                for function in ON_A_CHANGE.values():
                    self.refuses(InvalidChange, {"at": -1}, function, thing, ["0"])
                    self.refuses(InvalidChange, {"at": -1}, function, thing, None)
                self.refuses(InvalidChange, {"at": -1}, is_order, thing, None, [])
                self.refuses(InvalidChange, {"at": -1}, played, thing, ["x"], None)
                self.refuses(InvalidChange, {"at": -1}, list, orders(thing, ["0"] * 101))

    def test_the_first_error_that_is_due(self):
        self.refuses(InvalidCover, {"at": 1}, played, ("0", "1"), ["0", "00"], None)
        self.refuses(InvalidCover, {"at": -1}, is_order, ("0", "1"), None, None)
        self.refuses(InvalidCover, {"at": 0}, covered, "00", ["0"])
        self.refuses(InvalidCover, {"at": 1}, misfit, Table("01"), ["0", "00", "x"])


class Overview(Case):
    def test_new_lists(self):
        for n in SIZES:
            change = ("0" * n, "1" * n)
            cover = ["0" * n, "1" + "-" * (n - 1), "-" * (n - 1) + "0", "01010"[:n]]
            for name in ("wires", "product_words", "longest_order"):
                self.is_new(ON_A_CHANGE[name], change, cover)
                self.is_new(ON_A_CHANGE[name], change, tuple(cover))
        self.is_new(flicker, ("00", "11"), ["0-", "-1"])

    def test_arguments_stay(self):
        cover, order = ["0-", "-1"], [(1, 1), (0, 0)]
        for function in ON_A_CHANGE.values():
            function(("00", "11"), cover)
        played(("00", "11"), cover, order)
        is_order(("00", "11"), cover, order)
        covered("00", cover)
        misfit(Table("0000"), cover)
        list(orders(("00", "11"), cover))
        self.assertEqual((cover, order), (["0-", "-1"], [(1, 1), (0, 0)]))

    def test_where_the_names_stand(self):
        self.stands_in(module, ["is_cover", "covered", "misfit", "is_order", "played", "orders", *ON_A_CHANGE])


if __name__ == "__main__":
    unittest.main()
