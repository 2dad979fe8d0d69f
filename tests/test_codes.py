"""burstshop.codes: promises [130] to [132], and [2] to [4] there."""

import copy
import inspect
import unittest

from burstshop import codes as module
from burstshop.books import book_of, demand_of, is_book
from burstshop.codes import clash, steps
from burstshop.errors import InvalidCoding, InvalidNumber, Unsound
from burstshop.machines import Machine
from burstshop.nets import Net
from tests.circuits import (FOLLOWER, JOIN, UNSOUND, arc_order, codes_needed, slow_clash, slow_plan, some_codings,
                            step_signs, wrong_coding)
from tests.helper import Case, anything, is_int, names, nest, reached, sample, some_machines

# Functions that take a machine and a coding, with what stands behind.
TAKERS = [(steps, (None,)), (clash, ()), (demand_of, (None,)), (book_of, ()), (is_book, (None,)), (Net, (None,))]


class Interface(Case):
    def test_the_interface(self):
        self.stands_in(module, ["steps", "clash"])
        self.assertEqual(list(inspect.signature(steps).parameters), ["machine", "coding", "arc"])
        self.assertEqual(list(inspect.signature(clash).parameters), ["machine", "coding"])

    def test_the_examples_of_the_document(self):
        self.assertEqual(clash(JOIN, ["", ""]), (1, 0))
        self.assertEqual(steps(JOIN, ["0", "1"], 1), [("111", "001"), ("001", "000")])
        self.assertIsNone(clash(JOIN, ["0", "1"]))


class Codings(Case):
    def refused(self, machine, coding, at):
        for function, rest in TAKERS:
            self.refuses(InvalidCoding, {"at": at}, function, machine, coding, *rest)

    def test_what_is_no_coding(self):
        four = Machine(["a"], [], [(3, ["a"], [], 1)])
        told = [
            (JOIN, [], -1), (JOIN, ["0"], -1), (JOIN, ["0"] * 3, -1), (JOIN, ("",), -1), (JOIN, "01", -1),
            (JOIN, {0: "0", 1: "1"}, -1), (JOIN, [None], -1), (JOIN, [None, None], 0), (JOIN, ["", None], 1),
            (JOIN, ["0", ""], 1), (JOIN, ["", "0"], 1), (JOIN, ["00", "0"], 1), (JOIN, ["000", "000"], 0),
            (JOIN, ["00", "000"], 1), (JOIN, ["0", "2"], 1), (JOIN, ["-", "0"], 0), (JOIN, ["0", "-"], 1),
            (JOIN, ["0", 1], 1), (JOIN, [0, 1], 0), (JOIN, [b"0", b"1"], 0), (JOIN, [["0"], ["1"]], 0),
            (JOIN, ["0 ", "11"], 0), (JOIN, ["0\n", "00"], 0), (JOIN, [True, False], 0), (JOIN, ["0", ("1",)], 1),
            # There is a code for each state up to the greatest number, reached or not.
            (four, [""] * 2, -1), (four, [""] * 3, -1), (four, [""] * 5, -1), (four, ["", "", "0", ""], 2),
            (four, ["1", "0", "1", "01"], 3), (four, ["01", "0", "", "2"], 1), (Machine(["a"], [], []), [], -1),
            (Machine(["a"], [], []), ["", ""], -1), (Machine(["a"], [], []), ["000"], 0),
        ]
        for machine, coding, at in told:
            self.assertEqual(wrong_coding(machine, coding), at)
            self.refused(machine, coding, at)

    def test_any_value_as_a_coding_or_a_code(self):
        three = Machine(["a"], [], [(0, ["a"], [], 2)])
        for thing in anything():
            with self.subTest(thing=names(thing)):
                if wrong_coding(JOIN, thing) is not None:
                    self.refused(JOIN, thing, wrong_coding(JOIN, thing))
                else:
                    self.assertEqual(clash(JOIN, thing), slow_clash(JOIN, thing))
        for thing in anything(39):
            for coding in (["0", thing, "0"], (thing, thing, "0"), ["00", "10", thing], [thing, "", ""]):
                if wrong_coding(three, coding) is not None:
                    self.refused(three, coding, wrong_coding(three, coding))

    def test_right_codings(self):
        none = Machine(["a"], ["z"], [])
        for coding in ([""], ("",), ["0"], ["1"], ["00"], ["01"], ["10"], ["11"]):
            self.assertIsNone(clash(none, coding))
        for coding in (["", ""], ("0", "0"), ["1", "0"], ("01", "10"), ["11", "11"]):
            self.assertEqual(clash(FOLLOWER, coding), slow_clash(FOLLOWER, coding))
        eight = Machine(["a"], [], [(7, ["a"], [], 7)])
        self.assertIsNone(clash(eight, ["10"] * 8))
        self.refused(eight, ["10"] * 7, -1)

    def test_unsound_comes_first(self):
        for machine, told in UNSOUND:
            for coding in (None, [], [""] * codes_needed(machine), ["0"] * codes_needed(machine)):
                for function, rest in TAKERS:
                    self.refuses(Unsound, told, function, machine, coding, *rest)


class Steps(Case):
    def test_arcs_of_one_step_and_of_two(self):
        machine = Machine(["a", "b", "c"], ["x"], [(1, ["a"], [], 0), (0, ["b", "a"], ["x"], 3), (3, ["c"], [], 2),
                                                   (3, ["a", "b"], ["x"], 0)])
        told = [
            (["0", "0", "0", "0"], 1, [("0000", "1100")]), (["0", "1", "1", "0"], 1, [("0000", "1100")]),
            (["0", "0", "0", "1"], 1, [("0000", "1100"), ("1100", "1101")]),
            (["", "", "", ""], 2, [("110", "111")]),
            (["00", "00", "01", "10"], 2, [("11010", "11110"), ("11110", "11101")]),
            (["00", "00", "01", "11"], 3, [("11011", "00011"), ("00011", "00000")]),
            (["10", "00", "01", "11"], 1, [("00010", "11010"), ("11010", "11011")]),
        ]
        for coding, arc, changes in told:
            self.assertEqual(steps(machine, coding, arc), changes)
            self.assertEqual(steps(arc=arc, coding=tuple(coding), machine=machine), changes)
            self.is_new(steps, machine, coding, arc)
        # The arc 0 leaves the state 1, which is not reached.
        self.refuses(InvalidNumber, {}, steps, machine, ["", "", "", ""], 0)

    def test_steps_by_chance(self):
        source = sample(1)
        seen = {1: 0, 2: 0}
        for machine in some_machines(150, 2, 6):
            for coding in some_codings(machine, source):
                plan = {at: changes for at, _, _, changes in slow_plan(machine, coding)}
                for arc in range(-1, len(machine.arcs) + 1):
                    if arc in plan:
                        self.assertEqual(steps(machine, coding, arc), plan[arc])
                        seen[len(plan[arc])] += 1
                    else:
                        self.refuses(InvalidNumber, {}, steps, machine, coding, arc)
        self.assertGreater(min(seen.values()), 300)

    def test_any_value_as_an_arc(self):
        for thing in anything():
            if not (is_int(thing) and thing in (0, 1)):
                self.refuses(InvalidNumber, {}, steps, JOIN, ["0", "1"], thing)
        # What is wrong with the coding comes ahead.
        self.refuses(InvalidCoding, {"at": 1}, steps, JOIN, ["0", "10"], True)
        self.refuses(InvalidCoding, {"at": -1}, steps, JOIN, None, 7)


class Clashes(Case):
    def test_clash(self):
        ab = ["a", "b"]
        # The states 0 and 1 have one code, which is right if the arcs agree.
        there = Machine(["a"], [], [(0, ["a"], [], 1), (1, ["a"], [], 0)])
        back = Machine(ab, ["y", "z"], [(0, ab, ["z"], 1), (1, ab, ["z"], 0)])
        late = Machine(ab, ["z"], [(2, ["a"], [], 3), (1, ["b"], [], 2), (0, ["a"], [], 1), (3, ["b"], ["z"], 4)])
        told = [
            (FOLLOWER, ["", ""], None), (FOLLOWER, ["0", "1"], None), (FOLLOWER, ["1", "0"], None),
            (there, ["", ""], None), (there, ["1", "1"], None),
            (JOIN, ["", ""], (1, 0)), (JOIN, ["1", "1"], (1, 0)), (JOIN, ["0", "1"], None), (JOIN, ["10", "01"], None),
            (back, ["", ""], (1, 1)), (back, ["0", "0"], (1, 1)), (back, ["0", "1"], None),
            # The state 0 and the state 4 are entered with the same inputs, but with other outputs.
            (late, ["0"] * 5, (3, 0)), (late, ["", "", "", "", ""], (3, 0)),
            # The wires clash: from the same point the same burst leads to other codes.
            (Machine(["a"], [], [(0, ["a"], [], 1), (1, ["a"], [], 2), (2, ["a"], [], 3)]), ["0", "0", "0", "1"],
             (2, 0)),
            (Machine(["a"], [], [(0, ["a"], [], 1), (1, ["a"], [], 2), (2, ["a"], [], 3)]), ["00", "00", "00", "01"],
             (2, 1)),
        ]
        for machine, coding, found in told:
            self.assertEqual(slow_clash(machine, coding), found)
            self.assertEqual(clash(machine, coding), found)
            self.assertEqual(clash(coding=tuple(coding), machine=machine), found)

    def test_the_first_arc_and_then_the_first_function(self):
        # Both functions clash by the arc 2; the arcs are gone through by the states, not by their indexes.
        arcs = [(1, ["a"], [], 2), (2, ["a"], ["y", "z"], 3), (0, ["a"], [], 1)]
        self.assertEqual(clash(Machine(["a"], ["y", "z"], arcs), [""] * 4), (1, 0))
        arcs = [(1, ["a"], [], 2), (2, ["a"], ["z"], 3), (0, ["a"], [], 1)]
        self.assertEqual(clash(Machine(["a"], ["y", "z"], arcs), [""] * 4), (1, 1))
        arcs = [(1, ["b"], ["y"], 3), (0, ["a"], [], 1), (0, ["b"], ["z"], 2), (2, ["a"], ["y"], 4)]
        machine = Machine(["a", "b"], ["y", "z"], arcs)
        self.assertEqual(clash(machine, [""] * 5), slow_clash(machine, [""] * 5))
        self.assertEqual(clash(machine, [""] * 5), (3, 1))

    def test_clash_by_chance(self):
        source = sample(3)
        seen = {}
        for machine in some_machines(300, 4, 6):
            for coding in some_codings(machine, source):
                told = slow_clash(machine, coding)
                self.assertEqual(clash(machine, coding), told)
                if told is not None:
                    self.assertIs(type(told), tuple)
                key = None if told is None else (arc_order(machine).index(told[0]) > 1, told[1])
                seen[key] = seen.get(key, 0) + 1
        for key in (None, (False, 0), (True, 0), (False, 1), (True, 1), (True, 2)):
            self.assertGreater(seen[key], 10)

    def test_no_point_gets_two_signs_in_one_arc(self):
        source = sample(5)
        for machine in some_machines(100, 6, 6):
            for coding in some_codings(machine, source):
                for _, old, new, changes in slow_plan(machine, coding):
                    for function in range(len(old)):
                        signs = [pair for number, change in enumerate(changes)
                                 for pair in step_signs(old[function], new[function], number, change)]
                        self.assertEqual(len(dict(signs)), len(set(signs)))

    def test_no_call_changes_what_it_is_given(self):
        coding = ["0", "1"]
        kept = copy.deepcopy(coding)
        clash(JOIN, coding)
        steps(JOIN, coding, 0)
        self.assertEqual(coding, kept)
        self.assertEqual(reached(JOIN), [0, 1])

    def test_a_coding_that_is_nested(self):
        for thing in (nest(40, lambda x: [x]), nest(40, lambda x: (x,)), nest(39, lambda x: [x, "0"], "0")):
            self.refuses(InvalidCoding, {"at": wrong_coding(JOIN, thing)}, clash, JOIN, thing)


if __name__ == "__main__":
    unittest.main()
