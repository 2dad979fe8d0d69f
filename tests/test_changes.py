"""burstshop.changes: promises [17] to [22], and [2] to [4] there."""

import itertools
import unittest

from burstshop import changes as module
from burstshop.changes import change_cube, is_change, is_plain, is_uneven, nature, plain_changes, turning
from burstshop.errors import InvalidChange
from burstshop.tables import Table
from tests.helper import (SIZES, Case, anything, changes, inside, names, points, sample, shows_uneven, signs_of,
                          slow_kind, slow_span, some_tables, tables)

PLAIN = ("low", "high", "rise", "fall")


def cases(n):
    """Pairs of the text of a table and a change: all of up to two inputs, and many of more."""
    if n <= 2:
        return [(text, change) for text in tables(n) for change in changes(n)]
    source = sample(n)
    rows = []
    for text in some_tables(n, {3: 60, 4: 40, 5: 25}[n], n) + smooth_tables(n):
        rows += [(text, change) for change in source.sample(changes(n), 40)]
    return rows


def smooth_tables(n):
    """Tables that are on at the points with at least so many ones, so that large changes are plain."""
    return ["".join("01"[point.count("1") >= many] for point in points(n)) for many in range(1, n + 1)]


def walks(n, source, change):
    """Lists of points that lead from start to end, and others that do not quite."""
    start, end = change
    row = [start]
    while row[-1] != end:
        rest = sorted(inside(slow_span(row[-1], end)) - {row[-1]})
        row.append(source.choice(rest))
    rows = [row, tuple(row), row[:-1], row[1:], row + [end], [start] + row, row[::-1]]
    at = source.randrange(len(row))
    rows.append(row[:at] + [source.choice(points(n))] + row[at:])
    rows.append(row[:at] + [row[at]] + row[at:])
    return rows


def near_changes(n):
    """Values that are almost changes of n inputs."""
    low, high = "0" * n, "1" * n
    return [
        [low, high], (low, low), (high, high), (low,), (low, high, low), (low, high + "0"), (low + "0", high + "1"),
        (low[1:], high[1:]), (low, "-" * n), ("-" + low[1:], high), (low, "x" * n), (low, None),
        (list(low), list(high)), ((low,), (high,)), {low: high}, {0: low, 1: high}, low + high, low, (0, 1),
        (True, False), (b"0" * n, b"1" * n),
        ((low, high),), [(low, high)], ("", "1"), ("0" * 6, "1" * 6), (low, [high]),
    ]


class Changes(Case):
    def test_each_pair_of_points(self):
        for n in SIZES:
            rows = [p for size in range(max(1, n - 1), min(5, n + 1) + 1) for p in points(size)]
            for start, end in itertools.product(rows, rows) if n <= 3 else itertools.product(points(n), points(n)):
                self.says(len(start) == len(end) == n and start != end, is_change((start, end), n))

    def test_any_value(self):
        for n in SIZES:
            for thing in anything() + near_changes(n):
                with self.subTest(n=n, thing=names(thing)):
                    self.says(isinstance(thing, tuple) and thing in changes(n), is_change(thing, n))
        self.says(True, is_change(n=2, thing=("00", "11")))

    def test_change_cube(self):
        for n in SIZES:
            for change in changes(n):
                self.assertEqual(change_cube(change), slow_span(*change))
        self.assertEqual(change_cube(change=("010", "011")), "01-")


class Nature(Case):
    def judge(self, text, change, answer):
        """Accept each right answer, and no other one."""
        kind = slow_kind(text, change)
        if kind == "free":
            signs = signs_of(text)
            least = min(point for point in inside(slow_span(*change)) if signs[point] == "-")
            self.assertEqual(answer, ("free", least))
        elif kind == "uneven":
            self.assertIs(type(answer), tuple)
            self.assertEqual((len(answer), answer[0]), (2, "uneven"))
            self.assertIs(type(answer[1]), list)
            self.assertTrue(shows_uneven(text, change, answer[1]), answer)
        else:
            self.assertEqual(answer, (kind,))

    def test_the_judge(self):
        for row in (["00", "01", "11"], ["00", "10", "11"]):
            self.judge("0110", ("00", "11"), ("uneven", row))
        wrong = [("uneven", row) for row in (["00", "11"], ["00", "01"], [], ("00", "01", "11"), ["00", "00", "11"],
                                             ["00", "01", "10", "11"], ["10", "11"], None)]
        for answer in wrong + [("low",), ("free", "00"), ("uneven",), ["uneven", ["00", "01", "11"]], None]:
            with self.assertRaises(AssertionError):
                self.judge("0110", ("00", "11"), answer)
        for row in (["000", "001", "011", "111"], ["000", "010", "011", "111"]):
            self.judge("01101101", ("000", "111"), ("uneven", row))

    def test_nature_of_changes(self):
        met = set()
        for n in SIZES:
            for text, change in cases(n):
                answer = nature(Table(text), change)
                met.add(answer[0])
                with self.subTest(text=text, change=change):
                    self.judge(text, change, answer)
        self.assertEqual(met, {"free", "uneven", *PLAIN})

    def test_uneven_exactly_as_20_says(self):
        for n in SIZES:
            for text, change in cases(n)[::1 if n < 4 else 4]:
                signs = signs_of(text)
                start, end = change
                room = inside(slow_span(start, end))
                if any(signs[point] == "-" for point in room):
                    continue
                if signs[start] == signs[end]:
                    uneven = any(signs[point] != signs[start] for point in room)
                else:
                    uneven = any(signs[x] == signs[end] and signs[y] == signs[start]
                                 for x in room for y in inside(slow_span(x, end)))
                self.assertEqual(nature(Table(text), change)[0] == "uneven", uneven)

    def test_each_kind(self):
        self.assertEqual(nature(Table("0000"), ("00", "11")), ("low",))
        self.assertEqual(nature(Table("1111"), ("01", "10")), ("high",))
        self.assertEqual(nature(Table("0001"), ("00", "11")), ("rise",))
        self.assertEqual(nature(Table("0001"), ("11", "00")), ("fall",))
        self.assertEqual(nature(Table("0-01"), ("10", "11")), ("rise",))
        self.assertEqual(nature(Table("0--1"), ("00", "11")), ("free", "01"))
        self.assertEqual(nature(Table("-101"), ("11", "00")), ("free", "00"))
        self.assertEqual(nature(Table("011-"), ("11", "00")), ("free", "11"))
        self.assertEqual(nature(Table("10"), ("0", "1")), ("fall",))
        self.assertEqual(nature(change=("0", "1"), table=Table("01")), ("rise",))

    def test_flags_and_turning_ends(self):
        for n in SIZES:
            for text, change in cases(n):
                kind = slow_kind(text, change)
                self.says(kind in PLAIN, is_plain(Table(text), change))
                end = {"rise": change[1], "fall": change[0]}.get(kind)
                self.assertEqual(turning(Table(text), change), end)
        self.says(True, is_plain(change=("0", "1"), table=Table("01")))
        self.assertEqual(turning(change=("0", "1"), table=Table("10")), "0")

    def test_the_worked_example(self):
        change = ("00", "11")
        table, holed = Table("0111"), Table("0-11")
        self.assertEqual([nature(table, change), turning(table, change), nature(holed, change)],
                         [("rise",), "11", ("free", "01")])

    def test_plain_changes(self):
        for n in SIZES:
            texts = tables(n) if n <= 2 else some_tables(n, {3: 30, 4: 8, 5: 4}[n], n) + smooth_tables(n)[-2:]
            for text in texts:
                rows = plain_changes(Table(text))
                self.assertEqual(rows, sorted(set(rows)))
                self.assertEqual(rows, [change for change in changes(n) if slow_kind(text, change) in PLAIN])
        self.assertEqual(plain_changes(table=Table("0-")), [])
        self.assertEqual(plain_changes(Table("01")), [("0", "1"), ("1", "0")])
        self.assertEqual(len(plain_changes(Table("1" * 32))), 32 * 31)


class Uneven(Case):
    def test_all_short_lists_of_two_inputs(self):
        rows = [row for many in range(5) for row in itertools.product(points(2), repeat=many)]
        for text in ("0110", "1001", "0100", "1101", "01-0", "0-10", "1-11", "0011", "-10-", "0000"):
            table = Table(text)
            for change in changes(2):
                for row in rows:
                    held = shows_uneven(text, change, row)
                    self.says(held, is_uneven(table, change, row))
                    if held:
                        self.says(held, is_uneven(table, change, list(row)))

    def test_lists_of_more_inputs(self):
        met = set()
        for n in (1, 3, 4, 5):
            source = sample(n)
            for text, change in cases(n)[::1 if n == 1 else 5]:
                for row in walks(n, source, change):
                    held = shows_uneven(text, change, row)
                    met.add((n, held))
                    self.says(held, is_uneven(Table(text), change, row))
        # With one input nothing is ever uneven.
        self.assertEqual(met, {(1, False)} | {(n, held) for n in (3, 4, 5) for held in (True, False)})

    def test_what_nature_returns_shows_it(self):
        for n in (2, 3, 4, 5):
            for text, change in cases(n):
                answer = nature(Table(text), change)
                if answer[0] == "uneven":
                    self.says(True, is_uneven(Table(text), change, answer[1]))
                    self.says(True, is_uneven(Table(text), change, tuple(answer[1])))

    def test_free_points_elsewhere_in_the_cube(self):
        table = Table("01-0")
        self.assertEqual(nature(table, ("00", "11")), ("free", "10"))
        self.says(True, is_uneven(table, ("00", "11"), ["00", "01", "11"]))
        self.says(False, is_uneven(table, ("00", "11"), ["00", "10", "11"]))
        self.says(False, is_uneven(Table("-110"), ("00", "11"), ["00", "01", "11"]))
        self.says(False, is_uneven(Table("011-"), ("00", "11"), ["00", "01", "11"]))

    def test_turns_that_are_needed(self):
        self.says(False, is_uneven(Table("01"), ("0", "1"), ["0", "1"]))
        self.says(False, is_uneven(Table("0111"), ("00", "11"), ["00", "01", "11"]))
        self.says(True, is_uneven(Table("01101101"), ("000", "111"), ("000", "001", "011", "111")))
        self.says(False, is_uneven(Table("00000000"), ("000", "111"), ("000", "001", "011", "111")))

    def test_any_value(self):
        for n in SIZES:
            change = ("0" * n, "1" * n)
            table = Table("01" * 2 ** (n - 1))
            items = anything(39)
            rows = anything() + [[change[0], thing, change[1]] for thing in items]
            rows += [[thing, change[1]] for thing in items] + [(change[0], thing) for thing in items]
            rows += [dict.fromkeys(change), iter(change), set(change), "".join(change), [list(change)], [change]]
            for thing in rows:
                with self.subTest(n=n, thing=names(thing)):
                    self.says(shows_uneven(table.text, change, thing), is_uneven(table, change, thing))
        row = ["00", "01", "11"]
        self.says(True, is_uneven(points=row, change=("00", "11"), table=Table("0110")))
        for kind in (iter, dict.fromkeys, str):
            self.says(False, is_uneven(Table("0110"), ("00", "11"), kind(row)))


class WrongChanges(Case):
    def test_with_a_table(self):
        for n in SIZES:
            table = Table("01" * 2 ** (n - 1))
            others = [change for size in SIZES if size != n for change in changes(size)[:2]]
            for thing in anything() + near_changes(n) + others:
                if isinstance(thing, tuple) and thing in changes(n):
                    continue
                with self.subTest(n=n, thing=names(thing)):
                    self.refuses(InvalidChange, {"at": -1}, nature, table, thing)
                    self.refuses(InvalidChange, {"at": -1}, is_plain, table, thing)
                    self.refuses(InvalidChange, {"at": -1}, turning, table, thing)
                    self.refuses(InvalidChange, {"at": -1}, is_uneven, table, thing, ["0" * n, "1" * n])
                    self.refuses(InvalidChange, {"at": -1}, is_uneven, table, thing, None)

    def test_without_a_table(self):
        right = [change for n in SIZES for change in changes(n)]
        rows = [thing for n in SIZES for thing in near_changes(n)]
        for thing in anything() + rows + [("", ""), ("", "0"), ("0" * 6, "1" * 6), ("0", "00")]:
            if isinstance(thing, tuple) and thing in right:
                continue
            with self.subTest(thing=names(thing)):
                self.refuses(InvalidChange, {"at": -1}, change_cube, thing)


class Overview(Case):
    def test_new_lists(self):
        for n in SIZES:
            self.is_new(plain_changes, Table("01" * 2 ** (n - 1)))
        first = nature(Table("0110"), ("00", "11"))
        kept = list(first[1])
        first[1].append("more")
        again = nature(Table("0110"), ("00", "11"))
        self.assertTrue(shows_uneven("0110", ("00", "11"), again[1]))
        self.assertTrue(shows_uneven("0110", ("00", "11"), kept))

    def test_points_stay(self):
        row = ["00", "01", "11"]
        is_uneven(Table("0110"), ("00", "11"), row)
        self.assertEqual(row, ["00", "01", "11"])

    def test_where_the_names_stand(self):
        self.stands_in(module, ["is_change", "change_cube", "nature", "is_plain", "is_uneven", "turning",
                                "plain_changes"])


if __name__ == "__main__":
    unittest.main()
