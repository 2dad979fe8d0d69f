"""burstshop.tables: promises [14] to [16], and [2] to [4] there."""

import unittest

from burstshop import tables as module
from burstshop.errors import InvalidPoint, InvalidTable
from burstshop.tables import Table
from tests.helper import SIZES, Case, anything, cubes, inside, is_int, names, points, sample, some_tables, tables

LISTS = ("ons", "offs", "frees", "primes")


def many_texts(n, many):
    return tables(n) if n <= 2 else some_tables(n, many, n)


def slow_primes(text, n):
    """The primes by the words of [14]."""
    signs = dict(zip(points(n), text))
    good = [cube for cube in cubes(n) if all(signs[point] != "0" for point in inside(cube))]
    room = {cube: inside(cube) for cube in good}
    return [cube for cube in good if not any(room[cube] < room[other] for other in good)]


class Texts(Case):
    def test_sign_of_each_point(self):
        for n in SIZES:
            for text in many_texts(n, 40):
                table = Table(text)
                self.assertEqual(table.text, text)
                self.assertEqual(table.n, n)
                self.assertTrue(is_int(table.n))
                for point in points(n):
                    index = sum(2 ** (n - 1 - i) for i in range(n) if point[i] == "1")
                    self.assertEqual(table.value(point), text[index])

    def test_input_0_is_the_highest_digit(self):
        table = Table("0000-111")
        self.assertEqual([table.value("100"), table.value("001"), table.value(point="011")], ["-", "0", "0"])

    def test_points_of_each_sign(self):
        for n in SIZES:
            for text in many_texts(n, 40):
                table = Table(text)
                signs = list(zip(points(n), text))
                self.assertEqual(table.ons(), [point for point, sign in signs if sign == "1"])
                self.assertEqual(table.offs(), [point for point, sign in signs if sign == "0"])
                self.assertEqual(table.frees(), [point for point, sign in signs if sign == "-"])

    def test_primes(self):
        for n, many in ((1, 9), (2, 81), (3, 120), (4, 30), (5, 8)):
            for text in many_texts(n, many):
                self.assertEqual(Table(text).primes(), slow_primes(text, n), text)

    def test_primes_at_the_edges(self):
        for n in SIZES:
            self.assertEqual(Table("0" * 2 ** n).primes(), [])
            for text in ("1" * 2 ** n, "-" * 2 ** n):
                self.assertEqual(Table(text).primes(), ["-" * n])

    def test_primes_may_consist_of_free_points(self):
        self.assertEqual(Table("1--0").primes(), ["-0", "0-"])
        self.assertEqual(Table("-000").primes(), ["00"])

    def test_value_of_what_is_no_point(self):
        for n in SIZES:
            table = Table("01" * 2 ** (n - 1))
            wrong = ["0" * (n - 1), "0" * (n + 1), "-" * n, "0" * (n - 1) + "-", "0" * (n - 1) + "x", ["0"] * n, 0]
            for thing in anything() + wrong:
                if isinstance(thing, str) and len(thing) == n and set(thing) <= set("01"):
                    continue
                with self.subTest(n=n, thing=names(thing)):
                    self.refuses(InvalidPoint, {"at": 0}, table.value, thing)

    def test_by_name(self):
        self.assertEqual(Table(text="01").text, "01")
        self.assertEqual(Table("01").value(point="1"), "1")
        self.says(True, Table("01").refines(other=Table("-1")))


class WrongTexts(Case):
    def test_kind(self):
        for thing in anything() + [["0", "1"], ("0", "1"), b"01", 1, True, None, Table("01")]:
            if not isinstance(thing, str):
                with self.subTest(thing=names(thing)):
                    self.refuses(InvalidTable, {"why": "kind"}, Table, thing)

    def test_length(self):
        for many in range(0, 70):
            for sign in "01-x":
                if many not in (2, 4, 8, 16, 32):
                    self.refuses(InvalidTable, {"why": "length"}, Table, sign * many)
                elif sign != "x":
                    self.assertEqual(Table(sign * many).n, many.bit_length() - 1)

    def test_sign(self):
        for many in (2, 4, 8, 16, 32):
            for at in range(many):
                for sign in "2x \n+_O~":
                    text = "0" * at + sign + "-" * (many - at - 1)
                    self.refuses(InvalidTable, {"why": "sign"}, Table, text)


class Told(Case):
    def test_lists_of_points(self):
        for n in SIZES:
            source = sample(n)
            for text in many_texts(n, 40):
                ons = [point for point, sign in zip(points(n), text) if sign == "1"]
                frees = [point for point, sign in zip(points(n), text) if sign == "-"]
                source.shuffle(ons)
                source.shuffle(frees)
                for kind in (list, tuple):
                    table = Table.told(n, ons=kind(ons + ons[:2]), frees=kind(frees[:3] + frees))
                    self.assertIs(type(table), Table)
                    self.assertEqual((table.text, table.n), (text, n))

    def test_frees_left_out(self):
        for n in SIZES:
            self.assertEqual(Table.told(n, ons=[]).text, "0" * 2 ** n)
            self.assertEqual(Table.told(n, ons=()).text, "0" * 2 ** n)
            self.assertEqual(Table.told(n, ons=points(n)).text, "1" * 2 ** n)
            self.assertEqual(Table.told(n, ons=["1" * n]).text, "0" * (2 ** n - 1) + "1")
            self.assertEqual(Table.told(n, ons=[], frees=tuple(points(n))).text, "-" * 2 ** n)

    def test_by_name_alone(self):
        self.assertEqual(Table.told(frees=["01"], ons=("10",), n=2).text, "0-10")
        with self.assertRaises(TypeError):
            Table.told(2, ["10"])
        with self.assertRaises(TypeError):
            Table.told(2, ["10"], ["01"])

    def test_number_of_inputs(self):
        for thing in anything() + [0, 6, -1, True, False, 1.0, "2", None, [1]]:
            if is_int(thing) and 1 <= thing <= 5:
                continue
            with self.subTest(thing=names(thing)):
                self.refuses(InvalidTable, {"why": "inputs"}, Table.told, thing, ons=[])
                self.refuses(InvalidTable, {"why": "inputs"}, Table.told, thing, ons=["x"], frees=[None])
                self.refuses(InvalidTable, {"why": "inputs"}, Table.told, thing, ons=["0"], frees=["0"])

    def test_items_that_are_no_points(self):
        for n in SIZES:
            for thing in anything(39) + ["0" * (n - 1), "0" * (n + 1), "-" * n, ["0" * n], 0]:
                if isinstance(thing, str) and len(thing) == n and set(thing) <= set("01"):
                    continue
                with self.subTest(n=n, thing=names(thing)):
                    row = ["0" * n, "0" * n, thing, "x", thing]
                    self.refuses(InvalidPoint, {"at": 2}, Table.told, n, ons=row)
                    self.refuses(InvalidPoint, {"at": 0}, Table.told, n, ons=tuple(row[2:]))
                    self.refuses(InvalidPoint, {"at": 2}, Table.told, n, ons=[], frees=row)
                    self.refuses(InvalidPoint, {"at": 0}, Table.told, n, ons=["1" * n], frees=tuple(row[2:]))

    def test_ons_are_refused_ahead_of_frees_and_these_ahead_of_both(self):
        for n in SIZES:
            low, high = "0" * n, "1" * n
            self.refuses(InvalidPoint, {"at": 1}, Table.told, n, ons=[low, "x"], frees=["x", low])
            self.refuses(InvalidPoint, {"at": 2}, Table.told, n, ons=[low], frees=[low, high, "x"])
            self.refuses(InvalidTable, {"why": "both"}, Table.told, n, ons=[low, high], frees=[high])
            self.refuses(InvalidTable, {"why": "both"}, Table.told, n, ons=(high, high), frees=(high, low, low))

    def test_lists_stay_and_are_not_kept(self):
        ons, frees = ["00", "00"], ["11"]
        table = Table.told(2, ons=ons, frees=frees)
        self.assertEqual((ons, frees), (["00", "00"], ["11"]))
        ons.append("01")
        frees.clear()
        self.assertEqual(table.text, "100-")
        self.assertEqual((table.ons(), table.frees()), (["00"], ["11"]))


class TwoTables(Case):
    def test_equal_by_text(self):
        for n in (1, 2):
            for one in tables(n):
                for other in tables(n):
                    self.says(one == other, Table(one) == Table(other))
                    self.says(one != other, Table(one) != Table(other))
        for n in (3, 4, 5):
            rows = some_tables(n, 12, n)
            for one in rows:
                for other in rows:
                    self.says(one == other, Table(one) == Table(other))
        self.says(False, Table("01") == Table("0101"))
        self.says(True, Table.told(2, ons=["11"]) == Table("0001"))

    def test_equal_to_nothing_else(self):
        for thing in anything() + ["01", ["0", "1"], ("01", 1)]:
            if not isinstance(thing, Table):
                with self.subTest(thing=names(thing)):
                    self.says(False, Table("01") == thing)
                    self.says(True, Table("01") != thing)
                    self.assertFalse(thing == Table("01"))

    def test_refines(self):
        for n in SIZES:
            rows = tables(n) if n <= 2 else some_tables(n, 25, n)
            rows = rows + [self.loosened(text, at) for at, text in enumerate(rows)]
            for one in rows:
                for other in rows:
                    held = all(theirs == "-" or theirs == mine for mine, theirs in zip(one, other))
                    self.says(held, Table(one).refines(Table(other)))

    def loosened(self, text, at):
        """The table with every third sign free."""
        return "".join("-" if (k + at) % 3 == 0 else sign for k, sign in enumerate(text))

    def test_refines_asks_for_the_same_size(self):
        for one in SIZES:
            for other in SIZES:
                for sign in "01-":
                    self.says(one == other, Table(sign * 2 ** one).refines(Table(sign * 2 ** other)))
                    self.says(one == other, Table(sign * 2 ** one).refines(Table("-" * 2 ** other)))


class Overview(Case):
    def test_new_lists(self):
        for text in ("01", "0-11", "1-010-11", "-" * 16, "10-1" * 8):
            table = Table(text)
            for name in LISTS:
                self.is_new(getattr(table, name))
            self.assertEqual((table.text, table.ons()), (text, Table(text).ons()))

    def test_nothing_changes_the_table(self):
        table = Table("0-11")
        for name in LISTS:
            getattr(table, name)()
        table.value("00")
        table.refines(Table("0-1-"))
        self.refuses(InvalidPoint, {"at": 0}, table.value, "0")
        self.assertEqual((table.text, table.n), ("0-11", 2))

    def test_where_the_names_stand(self):
        self.stands_in(module, ["Table"])
        for name in ("__init__", "__eq__", "value", "refines", "told", *LISTS):
            self.assertIn(name, vars(Table))


if __name__ == "__main__":
    unittest.main()
