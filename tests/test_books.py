"""burstshop.books: promises [133] to [135], and [2] to [4] there."""

import copy
import inspect
import itertools
import unittest

from burstshop import books as module
from burstshop.books import book_of, codings, demand_of, fewest_wires, is_book
from burstshop.changes import is_plain
from burstshop.errors import Clash, InvalidCoding, InvalidNumber, LimitExceeded, NothingLeft, Unsound
from burstshop.growth import Demand, barred
from burstshop.least import grown_cover, pruned, small_cover, widened
from burstshop.machines import Machine
from burstshop.tables import Table
from tests.circuits import (BARRED, FOLLOWER, JOIN, UNSOUND, WITHOUT_CODING, codes_needed, right_circuits, slow_clash,
                            slow_demand, slow_plan, some_codings)
from tests.helper import Case, anything, cubes, is_int, names, points, reached, sample, slow_fits, some_machines

ABC = ("a", "b", "c")
# Five states that are reached, and four.
FIVE = Machine(ABC, [], [(0, ["a"], [], 1), (1, ["b"], [], 2), (2, ["c"], [], 3), (3, ["a"], [], 4)])
FOUR = Machine(ABC, [], [(0, ["a"], [], 1), (1, ["b"], [], 2), (2, ["c"], [], 5), (6, ["a"], [], 4)])
# Two arcs that ask for the same steps, if the states 1 and 2 have one code.
TWICE = Machine(["a", "b"], ["z"], [(0, ["a"], ["z"], 1), (1, ["a"], ["z"], 2), (2, ["a"], ["z"], 1)])


def function_numbers(machine, coding):
    return range(len(machine.outputs) + len(coding[0]))


def slow_codings(machine, wires):
    """The words of [135]."""
    codes = ["".join(signs) for signs in itertools.product("01", repeat=wires)]
    free = [state != 0 and state in reached(machine) for state in range(codes_needed(machine))]
    rows = []
    for row in itertools.product(*[codes if own else ["0" * wires] for own in free]):
        if slow_clash(machine, row) is None:
            told = [slow_demand(machine, row, f) for f in function_numbers(machine, row)]
            if all(barred(Demand(Table(text), listed)) is None for text, listed in told):
                rows.append(list(row))
    return sorted(rows)


class Interface(Case):
    def test_the_interface(self):
        told = {"demand_of": ["machine", "coding", "function"], "book_of": ["machine", "coding"],
                "is_book": ["machine", "coding", "thing"], "codings": ["machine", "wires"], "fewest_wires": ["machine"]}
        self.stands_in(module, told)
        for name, arguments in told.items():
            self.assertEqual(list(inspect.signature(getattr(module, name)).parameters), arguments)

    def test_the_examples_of_the_document(self):
        told = [codings(JOIN, 1), fewest_wires(JOIN), demand_of(JOIN, ["0", "1"], 0).table.text,
                book_of(JOIN, ["0", "1"])]
        self.assertEqual(told, [[["0", "1"]], 1, "00010111",
                                [["-11", "1-1", "11-"], ["-11", "1-1", "11-"]]])


class Demands(Case):
    def check(self, machine, coding, function):
        text, listed = slow_demand(machine, coding, function)
        demand = demand_of(machine, coding, function)
        self.assertIs(type(demand), Demand)
        self.assertEqual([demand.table.text, demand.changes], [text, tuple(listed)])
        for change in listed:
            self.says(True, is_plain(Table(text), change))
        return listed

    def test_demand_of(self):
        demand = demand_of(FOLLOWER, ["", ""], 0)
        self.assertEqual([demand.table.text, demand.changes], ["01", (("0", "1"), ("1", "0"))])
        demand = demand_of(function=1, coding=("0", "1"), machine=FOLLOWER)
        self.assertEqual([demand.table.text, demand.changes],
                         ["0011", (("00", "10"), ("10", "11"), ("11", "01"), ("01", "00"))])
        # Without arcs nothing is asked for; the arcs of states that are not reached ask for nothing.
        for machine in (Machine(["a", "b"], ["z"], []), Machine(["a", "b"], ["z"], [(3, ["a"], ["z"], 3)])):
            for wires in (0, 1, 2):
                coding = ["1" * wires] * codes_needed(machine)
                for function in range(1 + wires):
                    demand = demand_of(machine, coding, function)
                    self.assertEqual([demand.table.text, demand.changes], ["-" * 2 ** (2 + wires), ()])

    def test_steps_that_stand_twice(self):
        demand = demand_of(TWICE, ["", "", ""], 0)
        self.assertEqual([demand.table.text, demand.changes], ["0-1-", (("00", "10"), ("10", "00"))])
        demand = demand_of(TWICE, ["1", "0", "1"], 1)
        self.assertEqual(demand.changes, (("001", "101"), ("101", "100"), ("100", "000"), ("000", "001")))
        seen = 0
        for machine, coding, _ in right_circuits(150, 7, 6):
            for function in function_numbers(machine, coding):
                listed = self.check(machine, coding, function)
                seen += len(listed) < sum(len(changes) for _, _, _, changes in slow_plan(machine, coding))
        self.assertGreater(seen, 5)

    def test_demands_by_chance(self):
        source = sample(1)
        seen = [0, 0]
        for machine in some_machines(150, 2, 6):
            for coding in some_codings(machine, source):
                found = slow_clash(machine, coding)
                for function in function_numbers(machine, coding):
                    if found is None:
                        self.check(machine, coding, function)
                        seen[0] += 1
                    else:
                        told = {"arc": found[0], "function": found[1]}
                        self.refuses(Clash, told, demand_of, machine, coding, function)
                        seen[1] += 1
        self.assertGreater(min(seen), 200)

    def test_errors(self):
        for machine, told in UNSOUND:
            self.refuses(Unsound, told, demand_of, machine, None, None)
        self.refuses(InvalidCoding, {"at": -1}, demand_of, JOIN, [], 9)
        self.refuses(InvalidCoding, {"at": 1}, demand_of, JOIN, ["", "1"], None)
        # The number comes ahead of the clash, which is told for each function, whichever clashes.
        for number in (-1, 1, 5, True, False, None, "0", 0.0):
            self.refuses(InvalidNumber, {}, demand_of, JOIN, ["", ""], number)
        self.refuses(Clash, {"arc": 1, "function": 0}, demand_of, JOIN, ["", ""], 0)
        self.refuses(Clash, {"arc": 1, "function": 0}, demand_of, JOIN, ["0", "0"], 1)
        for thing in anything():
            if not (is_int(thing) and thing in (0, 1)):
                self.refuses(InvalidNumber, {}, demand_of, JOIN, ["0", "1"], thing)
        self.refuses(InvalidNumber, {}, demand_of, Machine(["a"], [], []), [""], 0)


class Books(Case):
    def test_small_cover(self):
        for machine, coding, _ in right_circuits(80, 3):
            for function, cover in enumerate(book_of(machine, coding)):
                demand = demand_of(machine, coding, function)
                self.assertEqual(cover, pruned(demand, widened(demand, grown_cover(demand))))
                self.assertEqual(cover, small_cover(demand))

    def test_book_of(self):
        for machine, coding, _ in right_circuits(150, 4, 6):
            book = book_of(machine, coding)
            self.assertEqual(book_of(coding=tuple(coding), machine=machine), book)
            self.assertEqual(len(book), len(function_numbers(machine, coding)))
            for function, cover in enumerate(book):
                text, listed = slow_demand(machine, coding, function)
                self.says(True, slow_fits(text, listed, cover))
            self.says(True, is_book(machine, coding, book))
        self.is_new(book_of, JOIN, ["0", "1"])
        # No function, and functions of which nothing is asked.
        self.assertEqual(book_of(Machine(["a"], [], [(0, ["a"], [], 1), (1, ["a"], [], 0)]), ["", ""]), [])
        self.assertEqual(book_of(Machine(ABC, ["x", "y", "z"], []), ["10"]), [[]] * 5)

    def test_errors_of_book_of(self):
        for machine, told in UNSOUND:
            self.refuses(Unsound, told, book_of, machine, None)
        self.refuses(InvalidCoding, {"at": 0}, book_of, JOIN, ["-", "0"])
        self.refuses(Clash, {"arc": 1, "function": 0}, book_of, JOIN, ["", ""])
        for machine, coding in BARRED:
            told = [slow_demand(machine, coding, f) for f in function_numbers(machine, coding)]
            self.assertTrue(any(barred(Demand(Table(text), listed)) for text, listed in told))
            self.refuses(NothingLeft, {"word": "cover"}, book_of, machine, coding)
            # Each demand can be asked for, barred or not.
            for function in function_numbers(machine, coding):
                self.assertEqual(demand_of(machine, coding, function).table.text,
                                 slow_demand(machine, coding, function)[0])

    def test_is_book(self):
        source = sample(5)
        seen = {True: 0, False: 0}
        for machine, coding, _ in right_circuits(100, 6):
            book = book_of(machine, coding)
            told = [slow_demand(machine, coding, f) for f in function_numbers(machine, coding)]
            many = len(machine.inputs) + len(coding[0])
            for _ in range(8):
                other = [list(cover) for cover in book]
                if other:
                    cover = source.choice(other)
                    if cover and source.randrange(3):
                        cover.pop(source.randrange(len(cover)))
                    if source.randrange(2):
                        cover.insert(source.randint(0, len(cover)), source.choice(cubes(many)))
                right = all(slow_fits(*row, cover) for row, cover in zip(told, other))
                for thing in (other, tuple(tuple(cover) for cover in other)):
                    self.says(right, is_book(machine, coding, thing))
                seen[right] += 1
        self.assertGreater(min(seen.values()), 100)

    def test_what_is_no_book(self):
        book = book_of(JOIN, ["0", "1"])
        wrong = [book[:1], book + book[:1], [], [book[0], None], [[], book[1]], [book[0], ["-11", "1-1", "11-", "0"]],
                 {0: book[0], 1: book[1]}, [book[0], ["-11", "1-1", "11-"] * 34], [book[0], ["---"]], book[0]]
        for thing in wrong + anything():
            self.says(False, is_book(JOIN, ["0", "1"], thing))
        for thing in anything(38):
            self.says(False, is_book(JOIN, ["0", "1"], [thing, book[1]]))
            self.says(False, is_book(JOIN, ["0", "1"], (book[0], [thing])))
        self.says(True, is_book(thing=[book[0], ["-11", "1-1", "11-"] * 33], coding=["0", "1"], machine=JOIN))
        none = Machine(["a"], [], [])
        for thing in anything():
            self.says(thing in ([], ()) and isinstance(thing, (list, tuple)), is_book(none, [""], thing))

    def test_is_book_where_there_is_none(self):
        # A clash is no error here.
        for thing in ([["11"]], [[]], [], None, [["1-", "-1"]]):
            self.says(False, is_book(JOIN, ["", ""], thing))
        source = sample(11)
        for machine, coding in BARRED:
            covers = [[], ["-" * (len(machine.inputs) + len(coding[0]))]]
            for function in function_numbers(machine, coding):
                text, _ = slow_demand(machine, coding, function)
                covers.append([p for p, sign in zip(points(len(text).bit_length() - 1), text) if sign == "1"])
            for _ in range(50):
                thing = [source.choice(covers) for _ in function_numbers(machine, coding)]
                self.says(False, is_book(machine, coding, thing))
        for machine, told in UNSOUND:
            self.refuses(Unsound, told, is_book, machine, None, None)
        self.refuses(InvalidCoding, {"at": -1}, is_book, JOIN, None, None)

    def test_no_call_changes_what_it_is_given(self):
        coding, book = ["0", "1"], book_of(JOIN, ["0", "1"])
        kept = copy.deepcopy((coding, book))
        is_book(JOIN, coding, book)
        demand_of(JOIN, coding, 1)
        self.is_new(book_of, JOIN, coding)
        self.assertEqual((coding, book), kept)


class AllCodings(Case):
    def test_codings(self):
        told = [
            (JOIN, 0, []), (JOIN, 1, [["0", "1"]]), (JOIN, 2, [["00", "01"], ["00", "10"], ["00", "11"]]),
            (Machine(["a"], [], []), 0, [[""]]), (Machine(["a"], [], []), 2, [["00"]]),
            (FOLLOWER, 0, [["", ""]]), (FOLLOWER, 1, [["0", "0"], ["0", "1"]]),
            # States that are not reached have no "1", also between others.
            (FOUR, 0, [[""] * 7]), (Machine(["a"], [], [(0, ["a"], [], 2)]), 1, [["0", "0", "0"], ["0", "0", "1"]]),
        ]
        for machine, wires, rows in told:
            self.assertEqual(codings(machine, wires), rows)
            self.assertEqual(codings(wires=wires, machine=machine), rows)
            self.is_new(codings, machine, wires)
        self.assertEqual(len(codings(FOUR, 2)), len(slow_codings(FOUR, 2)))

    def test_codings_by_chance(self):
        seen = {}
        for machine in some_machines(60, 8) + WITHOUT_CODING:
            for wires in (0, 1, 2):
                rows = slow_codings(machine, wires)
                self.assertEqual(codings(machine, wires), rows)
                seen[min(len(rows), 2), wires] = seen.get((min(len(rows), 2), wires), 0) + 1
        for key in ((0, 0), (1, 0), (0, 1), (1, 1), (2, 1), (0, 2), (2, 2)):
            self.assertGreater(seen[key], 1)

    def test_there_is_a_book_for_each_coding(self):
        for machine in some_machines(30, 9):
            for wires in (0, 1, 2):
                for coding in codings(machine, wires):
                    self.says(True, is_book(machine, coding, book_of(machine, coding)))

    def test_fewest_wires(self):
        seen = []
        for machine in some_machines(60, 10) + WITHOUT_CODING:
            told = [wires for wires in (0, 1, 2) if codings(machine, wires)]
            found = fewest_wires(machine=machine)
            self.assertEqual(found, told[0] if told else None)
            seen.append(found)
        self.assertEqual(set(seen), {0, 1, 2, None})
        for machine in WITHOUT_CODING:
            self.assertEqual(slow_codings(machine, 1), [])
            self.assertEqual(codings(machine, 2), [])
        self.assertEqual([fewest_wires(JOIN), fewest_wires(FOLLOWER)], [1, 0])

    def test_four_reached_states_and_five(self):
        self.assertEqual(fewest_wires(FOUR), 0)
        self.refuses(LimitExceeded, {"limit": 4}, fewest_wires, FIVE)
        for wires in (0, 1, 2):
            self.assertEqual(codings(FOUR, wires)[0], ["0" * wires] * 7)
            self.refuses(LimitExceeded, {"limit": 4}, codings, FIVE, wires)

    def test_wrong_numbers_of_wires(self):
        for thing in anything() + [3, 4, -1]:
            if not (is_int(thing) and thing in (0, 1, 2)):
                with self.subTest(thing=names(thing)):
                    # The number comes ahead of the states.
                    for machine in (JOIN, FIVE, WITHOUT_CODING[0]):
                        self.refuses(InvalidNumber, {}, codings, machine, thing)
        for machine, told in UNSOUND:
            for wires in (0, 3, None):
                self.refuses(Unsound, told, codings, machine, wires)
            self.refuses(Unsound, told, fewest_wires, machine)
        # A machine that is unsound and large.
        large = Machine(ABC, [], list(FIVE.arcs) + [(4, ["a"], [], 4)])
        self.refuses(Unsound, {"why": "entry", "at": 4}, codings, large, 0)
        self.refuses(Unsound, {"why": "entry", "at": 4}, fewest_wires, large)


if __name__ == "__main__":
    unittest.main()
