"""burstshop.machines: promises [100] to [104], and [2] to [4] there."""

import copy
import itertools
import unittest

from burstshop import machines as module
from burstshop.errors import (Choke, InvalidMachine, InvalidName, InvalidNumber, InvalidStanding, Unsound)
from burstshop.machines import Machine, arcs_met, entries, fault, feed, follow, met, ways
from tests.helper import (NAMES, Case, anything, is_int, names, random_machine, reached, sample, signs_of_set,
                          slow_entries, some_machines, subsets)

FOLLOWER = [(0, ["a"], ["z"], 1), (1, ["a"], ["z"], 0)]
GOOD_NAMES = ["a", "z", "m7", "abcdefgh", "a1234567", "z0", "in", "x9y8z7"]
WRONG_NAMES = ["", "A", "aB", "1", "1a", "0", "abcdefghi", "a12345678", "a_b", "a b", " a", "a ", "a\n", "\n", "-",
               "a-", "a+b",
               "a.b", "~", "_a", "`", "{", "a{", "a/", "a:", b"a", ["a"], ("a",), None, 0, 1, True, 1.5]


def is_good_name(thing):
    """The words of [100]."""
    lower = "abcdefghijklmnopqrstuvwxyz"
    return (isinstance(thing, str) and 1 <= len(thing) <= 8 and thing[0] in lower
            and all(sign in lower + "0123456789" for sign in thing))


def is_good_choice(thing, known, least):
    if not isinstance(thing, (list, tuple)) or len(thing) < least:
        return False
    return all(isinstance(name, str) and name in known and thing.index(name) == at for at, name in enumerate(thing))


def is_good_arc(thing, inputs, outputs):
    """The words of [100]."""
    if not isinstance(thing, tuple) or len(thing) != 4:
        return False
    if not all(is_int(state) and state in range(8) for state in (thing[0], thing[3])):
        return False
    return is_good_choice(thing[1], inputs, 1) and is_good_choice(thing[2], outputs, 0)


def wrong_machine(inputs, outputs, arcs):
    """The part and the number of InvalidMachine, or None, by the words of [100]."""
    for part, rows, least, taken in (("inputs", inputs, 1, ()), ("outputs", outputs, 0, inputs)):
        if not isinstance(rows, (list, tuple)) or len(rows) not in range(least, 4):
            return (part, -1)
        for at, name in enumerate(rows):
            if not is_good_name(name) or any(name == other for other in (*rows[:at], *taken)):
                return (part, at)
    if not isinstance(arcs, (list, tuple)) or len(arcs) > 16:
        return ("arcs", -1)
    for at, arc in enumerate(arcs):
        if not is_good_arc(arc, inputs, outputs):
            return ("arcs", at)
    return None


def slow_fault(machine):
    """The words of [102]."""
    for at, (state, burst, _, _) in enumerate(machine.arcs):
        for k, (other, longer, _, _) in enumerate(machine.arcs):
            if k != at and other == state and set(burst) <= set(longer):
                return ("within", at)
    values = {0: (set(), set())}
    for state in reached(machine):
        for at, (own, burst, flips, after) in enumerate(machine.arcs):
            if own == state:
                told = (values[state][0] ^ set(burst), values[state][1] ^ set(flips))
                if values.setdefault(after, told) != told:
                    return ("entry", at)
    return None


def standings(machine):
    """All standings of the reached states of a sound machine, by the words of [103]."""
    rows = []
    for state in reached(machine):
        bursts = [set(burst) for own, burst, _, _ in machine.arcs if own == state]
        begun = [part for part in subsets(machine.inputs) if any(set(part) < burst for burst in bursts)]
        rows += [(state, ())] + [(state, part) for part in begun]
    return rows


def slow_feed(machine, standing, name):
    """The words of [103]."""
    state, arrived = standing
    bursts = {frozenset(arc[1]): arc for arc in machine.arcs if arc[0] == state}
    now = frozenset(arrived) | {name}
    if name in arrived or not any(now <= burst for burst in bursts):
        return None
    if now in bursts:
        return ((bursts[now][3], ()), bursts[now][2])
    return ((state, tuple(n for n in machine.inputs if n in now)), ())


def slow_follow(machine, row):
    """The list of the flips, or the index at which the machine chokes."""
    standing, told = (0, ()), []
    for at, name in enumerate(row):
        answer = slow_feed(machine, standing, name)
        if answer is None:
            return at
        standing, flips = answer
        told.append(flips)
    return told


def unsound_machines(many, seed):
    """Machines with a fault."""
    source = sample(seed)
    rows = []
    while len(rows) < many:
        machine = random_machine(source, 5, 12)
        arcs = [list(arc) for arc in machine.arcs]
        for arc in arcs[:source.randint(1, 16)]:
            at = source.choice([0, 1, 2, 3])
            if source.randrange(3) == 0 and at != 2:
                arc[at] = source.choice(subsets(machine.inputs)) if at == 1 else source.randrange(5)
        other = Machine(machine.inputs, machine.outputs, [tuple(arc) for arc in arcs])
        if slow_fault(other) is not None:
            rows.append(other)
    return rows


class Machines(Case):
    def test_the_interface(self):
        self.stands_in(module, ["Machine", "fault", "met", "arcs_met", "entries", "feed", "follow", "ways"])
        for name in ("__init__", "__eq__"):
            self.assertIn(name, vars(Machine))

    def test_a_machine(self):
        inputs, outputs = ["b", "a", "c3"], ["z", "y0"]
        arcs = [(0, ["a", "b"], ["y0", "z"], 7), (7, ("c3", "a", "b"), (), 7), (3, ["c3"], ["y0"], 0)]
        machine = Machine(inputs, outputs, arcs)
        told = ((0, ("b", "a"), ("z", "y0"), 7), (7, ("b", "a", "c3"), (), 7), (3, ("c3",), ("y0",), 0))
        self.assertEqual([machine.inputs, machine.outputs, machine.arcs], [("b", "a", "c3"), ("z", "y0"), told])
        for rows in (machine.inputs, machine.outputs, machine.arcs, *machine.arcs, machine.arcs[0][1],
                     machine.arcs[0][2]):
            self.assertIs(type(rows), tuple)
        # Later changes of what was passed have no effect.
        kept = copy.deepcopy((inputs, outputs, arcs))
        inputs[0], outputs[0] = "q", "q"
        arcs[0][1].append("c3")
        arcs[0][2].clear()
        arcs.clear()
        self.assertEqual([machine.inputs, machine.outputs, machine.arcs], [("b", "a", "c3"), ("z", "y0"), told])
        Machine(*kept)
        self.assertEqual(kept[0], ["b", "a", "c3"])
        self.assertEqual(kept[2][0], (0, ["a", "b"], ["y0", "z"], 7))

    def test_machines_at_the_bounds(self):
        self.assertEqual(Machine(["a"], [], []).arcs, ())
        self.assertEqual(Machine(("a", "b", "c"), ("x", "y", "z"), ()).outputs, ("x", "y", "z"))
        self.assertEqual(len(Machine(["a"], [], [(7, ["a"], [], 7)] * 16).arcs), 16)
        self.assertEqual(Machine(arcs=[(0, ["a"], [], 1)], outputs=[], inputs=["a"]).arcs, ((0, ("a",), (), 1),))
        for name in GOOD_NAMES:
            self.assertEqual(Machine([name], ["q"], [(0, [name], ["q"], 0)]).inputs, (name,))
            self.assertEqual(Machine(["q"], [name], [(0, ["q"], [name], 0)]).outputs, (name,))
        for burst in itertools.chain(*[itertools.permutations(NAMES, many) for many in (1, 2, 3)]):
            for kind in (list, tuple):
                machine = Machine(NAMES, ("x", "y", "z"), [(0, kind(burst), kind(["z", "x"]), 1)])
                self.assertEqual(machine.arcs, ((0, tuple(sorted(burst)), ("x", "z"), 1),))

    def check(self, inputs, outputs, arcs):
        told = wrong_machine(inputs, outputs, arcs)
        with self.subTest(inputs=names(inputs), outputs=names(outputs), arcs=names(arcs)):
            if told is None:
                machine = Machine(inputs, outputs, arcs)
                self.assertEqual([machine.inputs, machine.outputs, len(machine.arcs)],
                                 [tuple(inputs), tuple(outputs), len(arcs)])
            else:
                self.refuses(InvalidMachine, {"part": told[0], "at": told[1]}, Machine, inputs, outputs, arcs)

    def test_wrong_names(self):
        for thing in WRONG_NAMES + anything(39):
            if not is_good_name(thing):
                self.refuses(InvalidMachine, {"part": "inputs", "at": 0}, Machine, [thing], None, None)
                self.refuses(InvalidMachine, {"part": "inputs", "at": 2}, Machine, ("a", "b", thing), [], [])
                self.refuses(InvalidMachine, {"part": "outputs", "at": 0}, Machine, ["a"], [thing, thing], None)
                self.refuses(InvalidMachine, {"part": "outputs", "at": 1}, Machine, ["a"], ["z", thing, "a"], [])
        for thing in anything():
            self.check(thing, [], [])
            self.check(["a"], thing, [])
        told = [
            ([], [], "inputs", -1), (["a", "b", "c", "d"], [], "inputs", -1), (["a", "a"], [], "inputs", 1),
            ("a", [], "inputs", -1),
            (["a", "b", "a"], [], "inputs", 2), (["a", "b", "b"], ["a"], "inputs", 2), ({"a": 1}, [], "inputs", -1),
            (["a"], ["w", "x", "y", "z"], "outputs", -1), (["a"], ["a"], "outputs", 0),
            (["a", "b"], ["z", "b"], "outputs", 1),
            (["a"], ["z", "z"], "outputs", 1), (["a"], ["z", "y", "z"], "outputs", 2), (["a"], "z", "outputs", -1),
            (["a"], None, "outputs", -1), (None, None, "inputs", -1), (["A"] * 4, ["a"], "inputs", -1),
        ]
        for inputs, outputs, part, at in told:
            self.refuses(InvalidMachine, {"part": part, "at": at}, Machine, inputs, outputs, None)

    def test_wrong_arcs(self):
        good = (0, ["a"], ["z"], 1)
        wrong = [
            None, (), (0, ["a"], ["z"]), (0, ["a"], ["z"], 1, 1), [0, ["a"], ["z"], 1], (8, ["a"], ["z"], 1),
            (0, ["a"], ["z"], 8),
            (-1, ["a"], [], 1), (0, ["a"], [], -1), (True, ["a"], [], 1), (0, ["a"], [], False), (0.0, ["a"], [], 1),
            (0, ["a"], [], 1.0), ("0", ["a"], [], 1), (0, ["a"], [], None), (0, [], [], 1), (0, (), ["z"], 1),
            (0, ["c"], [], 1),
            (0, ["z"], [], 1), (0, ["a"], ["a"], 1), (0, ["a"], ["y"], 1), (0, ["a", "a"], [], 1),
            (0, ["a", "b", "a"], [], 1),
            (0, ["a"], ["z", "z"], 1), (0, "a", [], 1), (0, ["a"], "z", 1), (0, {"a"}, [], 1), (0, {"a": 1}, [], 1),
            (0, None, [], 1),
            (0, ["a"], None, 1), (0, ["a", None], [], 1), (0, [["a"]], [], 1), (0, ["a"], [0], 1),
            (0, ["a", "b", "c"], [], 1),
            (0, [b"a"], [], 1), (0, ["a"], [True], 1),
        ]
        for thing in wrong + anything(39):
            if is_good_arc(thing, ["a", "b"], ["z"]):
                continue
            with self.subTest(thing=names(thing)):
                self.refuses(InvalidMachine, {"part": "arcs", "at": 0}, Machine, ["a", "b"], ["z"],
                             [thing, good, thing])
                self.refuses(InvalidMachine, {"part": "arcs", "at": 2}, Machine, ["a", "b"], ["z"], (good, good, thing))
        for thing in anything(37):
            self.check(["a", "b"], ["z"], thing)
            for arc in ((thing, ["a"], [], 1), (0, thing, [], 1), (0, ["a"], thing, 1), (0, ["a"], [], thing),
                        (0, ["a", thing], [], 1), (0, ["a"], [thing], 1)):
                self.check(["a", "b"], ["z"], [good, arc])
        self.refuses(InvalidMachine, {"part": "arcs", "at": -1}, Machine, ["a"], [], [(0, ["a"], [], 1)] * 17)
        self.refuses(InvalidMachine, {"part": "arcs", "at": -1}, Machine, ["a"], [], [None] * 17)
        self.refuses(InvalidMachine, {"part": "arcs", "at": -1}, Machine, ["a"], [], {})

    def test_equal_machines(self):
        one = Machine(["a", "b"], ["z"], [(0, ["b", "a"], ["z"], 1)])
        self.says(True, one == Machine(("a", "b"), ("z",), ((0, ("a", "b"), ("z",), 1),)))
        self.says(False, one != Machine(("a", "b"), ("z",), ((0, ("a", "b"), ("z",), 1),)))
        others = [Machine(["b", "a"], ["z"], [(0, ["a", "b"], ["z"], 1)]), Machine(["a", "b"], ["z"], []),
                  Machine(["a", "b"], ["y"], [(0, ["a", "b"], ["y"], 1)]),
                  Machine(["a", "b", "c"], ["z"], [(0, ["a", "b"], ["z"], 1)]),
                  Machine(["a", "b"], ["z", "y"], [(0, ["a", "b"], ["z"], 1)]),
                  Machine(["a", "b"], ["z"], [(0, ["a", "b"], [], 1)]),
                  Machine(["a", "b"], ["z"], [(0, ["a", "b"], ["z"], 2)]),
                  Machine(["a", "b"], ["z"], [(1, ["a", "b"], ["z"], 1)]),
                  Machine(["a", "b"], ["z"], [(0, ["a"], ["z"], 1)]),
                  Machine(["a", "b"], ["z"], [(0, ["b", "a"], ["z"], 1)] * 2)]
        for other in others + anything() + [("a", "b"), one.arcs]:
            self.says(False, one == other)
            self.says(False, other == one)
            self.says(True, one != other)
        two = [(0, ["a"], [], 1), (0, ["b"], [], 2)]
        self.says(False, Machine(["a", "b"], [], two) == Machine(["a", "b"], [], two[::-1]))


class Faults(Case):
    def test_the_examples_of_the_document(self):
        m = Machine(["a", "b"], ["z"], [(0, ["b", "a"], ["z"], 1), (1, ["a", "b"], ["z"], 0)])
        self.assertEqual(
            [m.arcs[0], feed(m, (0, ("a",)), "b"), feed(m, (0, ("a",)), "a"), follow(m, ["b", "a", "a"]), ways(m, 3)],
            [(0, ("a", "b"), ("z",), 1), ((1, ()), ("z",)), None, [(), ("z",), ()], 4])
        told = [fault(Machine(["a"], [], [(0, ["a"], [], 0)])),
                fault(Machine(["a", "b"], [], [(0, ["a", "b"], [], 1), (0, ["b"], [], 2)]))]
        self.assertEqual(told, [("entry", 0), ("within", 1)])

    def test_fault(self):
        ab = ["a", "b"]
        told = [
            ([], None), ([(0, ["a"], ["z"], 1)], None), (FOLLOWER, None),
            ([(0, ["a"], [], 1), (0, ["b"], [], 2)], None),
            # A burst within another one, or equal to it; also of a state that is not reached.
            ([(0, ["a"], [], 1), (0, ["a"], [], 1)], ("within", 0)),
            ([(0, ab, [], 1), (0, ["a"], [], 2)], ("within", 1)),
            ([(0, ["a"], [], 1), (1, ["b"], [], 2), (0, ["b", "a"], [], 2)], ("within", 0)),
            ([(0, ab, [], 1), (1, ["a"], [], 2)], None),
            ([(5, ["b"], [], 1), (5, ab, [], 1)], ("within", 0)),
            ([(0, ["a"], [], 0), (6, ab, [], 1), (6, ab, [], 2)], ("within", 1)),
            # A state that is met with other values.
            ([(0, ["a"], [], 1), (1, ["a"], ["z"], 0)], ("entry", 1)),
            ([(0, ["a"], ["z"], 1), (1, ["a"], [], 0)], ("entry", 1)),
            ([(0, ["a"], [], 0)], ("entry", 0)), ([(0, ["a"], [], 2), (0, ["b"], [], 2)], ("entry", 1)),
            ([(1, ["a"], [], 1), (0, ["a"], [], 2)], None), ([(1, ["a"], [], 1), (0, ["a"], [], 1)], ("entry", 0)),
            # The arcs of the states that are met earlier come first, whatever their indexes are.
            ([(2, ["a"], [], 2), (1, ["a"], [], 1), (0, ["a"], [], 1), (0, ["b"], [], 2)], ("entry", 1)),
            ([(1, ["a"], [], 2), (2, ["b"], [], 0), (0, ["a"], [], 1), (1, ["b"], [], 0), (0, ["b"], [], 1)],
             ("entry", 4)),
            ([(3, ["a"], [], 3), (3, ["b"], [], 4), (0, ["a"], ["z"], 3), (4, ab, ["z"], 4)], ("entry", 0)),
            ([(1, ab, [], 1), (2, ["a"], [], 0), (0, ["b"], [], 2), (0, ["a"], [], 1)], ("entry", 1)),
        ]
        for arcs, found in told:
            machine = Machine(ab, ["z"], arcs)
            self.assertEqual(slow_fault(machine), found)
            self.assertEqual(fault(machine), found)
            self.assertEqual(fault(machine=machine), found)

    def test_fault_by_chance(self):
        for machine in some_machines(150, 1, 8):
            self.assertIsNone(slow_fault(machine))
            self.assertIsNone(fault(machine))
        seen = set()
        for machine in unsound_machines(400, 2):
            self.assertEqual(fault(machine), slow_fault(machine))
            seen.add(fault(machine))
        for word in ("within", "entry"):
            self.assertGreater(len([at for why, at in seen if why == word]), 4)

    def test_what_is_reached(self):
        for machine in some_machines(150, 3, 8):
            states = reached(machine)
            self.assertEqual(met(machine), states)
            arcs = [at for state in states for at, arc in enumerate(machine.arcs) if arc[0] == state]
            self.assertEqual(arcs_met(machine), arcs)
            values = slow_entries(machine)
            told = {state: [(signs_of_set(machine.inputs, ins), signs_of_set(machine.outputs, outs))
                            for ins, outs in values[state]] for state in values}
            self.assertEqual({state: [signs] for state, signs in entries(machine).items()}, told)
            for function in (met, arcs_met):
                self.is_new(function, machine)
            first = entries(machine)
            first.clear()
            self.assertEqual(set(entries(machine=machine)), set(states))

    def test_the_order_in_which_states_are_met(self):
        arcs = [(5, ["a"], [], 6), (2, ["b"], ["z"], 4), (0, ["b"], [], 5), (0, ["a"], ["z"], 2), (5, ["c"], [], 1),
                (7, ["a"], [], 3)]
        machine = Machine(["a", "b", "c"], ["z"], arcs)
        self.assertEqual(met(machine=machine), [0, 5, 2, 6, 1, 4])
        self.assertEqual(arcs_met(machine=machine), [2, 3, 0, 4, 1])
        self.assertEqual(entries(machine), {0: ("000", "0"), 5: ("010", "0"), 2: ("100", "1"), 6: ("110", "0"),
                                            1: ("011", "0"),
                                            4: ("110", "0")})
        empty = Machine(["a"], [], [(3, ["a"], [], 0)])
        self.assertEqual([met(empty), arcs_met(empty), entries(empty)], [[0], [], {0: ("0", "")}])

    def test_unsound_comes_first(self):
        for machine in unsound_machines(40, 4):
            why, at = slow_fault(machine)
            told = {"why": why, "at": at}
            for function in (met, arcs_met, entries):
                self.refuses(Unsound, told, function, machine)
            for standing, name in (((0, ()), machine.inputs[0]), (None, None), ((0, ()), None)):
                self.refuses(Unsound, told, feed, machine, standing, name)
            for row in ([], [machine.inputs[0]] * 9, None, [None]):
                self.refuses(Unsound, told, follow, machine, row)
            for many in (0, 5, -1, None, True):
                self.refuses(Unsound, told, ways, machine, many)


class Feeding(Case):
    def test_feed(self):
        seen = {"choke": 0, "longer": 0, "whole": 0}
        for machine in some_machines(120, 5, 8):
            for standing in standings(machine):
                for name in machine.inputs:
                    told = slow_feed(machine, standing, name)
                    self.assertEqual(feed(machine, standing, name), told)
                    seen["choke" if told is None else "longer" if told[0][1] else "whole"] += 1
        self.assertGreater(min(seen.values()), 100)
        machine = Machine(["a"], ["z"], FOLLOWER)
        self.assertEqual(feed(name="a", standing=(1, ()), machine=machine), ((0, ()), ("z",)))

    def test_choking(self):
        machine = Machine(["a", "b", "c"], ["z"], [(0, ["a", "b"], ["z"], 1), (0, ["b", "c"], [], 2),
                                                   (2, ["a"], [], 3)])
        told = {((0, ()), "a"): ((0, ("a",)), ()), ((0, ()), "c"): ((0, ("c",)), ()), ((0, ("a",)), "c"): None,
                ((0, ("a",)), "a"): None,
                ((0, ("b",)), "a"): ((1, ()), ("z",)), ((0, ("c",)), "b"): ((2, ()), ()), ((1, ()), "a"): None,
                ((2, ()), "b"): None, ((2, ()), "a"): ((3, ()), ()), ((0, ("c",)), "a"): None}
        for (standing, name), answer in told.items():
            self.assertEqual(feed(machine, standing, name), answer)

    def test_bursts_of_one_state_lie_apart(self):
        for machine in some_machines(120, 10, 8):
            for (s, burst, _, _), (t, other, _, _) in itertools.permutations(machine.arcs, 2):
                self.assertFalse(s == t and set(burst) <= set(other))

    def test_what_is_no_standing(self):
        machine = Machine(["b", "a", "c"], [], [(0, ["a", "b", "c"], [], 2), (2, ["a"], [], 3), (2, ["b", "c"], [], 1),
                                                (6, ["a"], [], 6)])
        good = [(0, ()), (0, ("b",)), (0, ("a",)), (0, ("c",)), (0, ("b", "a")), (0, ("b", "c")), (0, ("a", "c")),
                (2, ()),
                (2, ("b",)), (2, ("c",)), (3, ()), (1, ())]
        self.assertEqual(sorted(good), sorted(standings(machine)))
        wrong = [(0, ("a", "b")), (0, ("b", "a", "c")), (0, ("a", "a")), (0, ("x",)), (2, ("a",)), (2, ("b", "c")),
                 (2, ("c", "b")),
                 (4, ()), (6, ()), (7, ()), (8, ()), (-1, ()), (True, ()), (False, ()), (0.0, ()), ("0", ()),
                 (None, ()), (0, []), (0, ["b"]),
                 (0, None), (0, "b"), (0, ""), (0, ((),)), (0, (None,)), (0, ("b", None)), (0, (("b",),)), (0,),
                 (0, (), ()), [0, ()], (),
                 ((0, ()),), (3, ("a",)), (1, ("b",)), (0, {"b"}), (0, (b"b",)), ([], ()), ({}, ()), ((), ())]
        wrong += anything() + [(0, thing) for thing in anything(39)] + [(0, (thing,)) for thing in anything(38)]
        wrong += [(thing, ()) for thing in anything(39)]
        known = {repr(standing) for standing in good}
        for thing in wrong:
            if repr(thing) not in known:
                with self.subTest(thing=names(thing)):
                    self.refuses(InvalidStanding, {}, feed, machine, thing, "a")
                    self.refuses(InvalidStanding, {}, feed, machine, thing, None)
        every = [part for many in range(4) for part in itertools.permutations(["b", "a", "c"], many)]
        for machine in some_machines(40, 6, 8):
            known = standings(machine)
            for state in range(8):
                for part in every:
                    if (state, part) not in known:
                        self.refuses(InvalidStanding, {}, feed, machine, (state, part), machine.inputs[0])

    def test_what_is_no_input(self):
        machine = Machine(["a", "b"], ["z"], [(0, ["a", "b"], ["z"], 1)])
        for thing in ["z", "c", "", "A", "ab", " a", b"a", ["a"], ("a",), None, 0, True, *anything()]:
            with self.subTest(thing=names(thing)):
                for call in (lambda: feed(machine, (0, ("a",)), thing), lambda: follow(machine, [thing]),
                             lambda: follow(machine, ("a", "a", thing, None))):
                    with self.assertRaises(InvalidName) as caught:
                        call()
                    self.assertIs(caught.exception.name, thing)

    def test_follow(self):
        source = sample(7)
        seen = set()
        for machine in some_machines(120, 8, 8):
            for many in (0, 1, 2, 5, 9):
                row = [source.choice(machine.inputs) for _ in range(many)]
                told = slow_follow(machine, row)
                seen.add(type(told))
                if isinstance(told, int):
                    self.refuses(Choke, {"at": told}, follow, machine, row)
                    self.refuses(Choke, {"at": told}, follow, machine, tuple(row) + ("a",))
                else:
                    self.assertEqual(follow(machine, row), told)
                    self.assertEqual(follow(machine, tuple(row)), told)
                    self.is_new(follow, machine, row)
        self.assertEqual(seen, {int, list})

    def test_long_rows(self):
        machine = Machine(["a", "b"], ["z"], [(0, ["b", "a"], ["z"], 1), (1, ["a", "b"], ["z"], 0)])
        self.assertEqual(follow(machine, ["a", "b", "b", "a"] * 2000), [(), ("z",), (), ("z",)] * 2000)
        self.refuses(Choke, {"at": 8001}, follow, machine, ["a", "b", "b", "a"] * 2000 + ["a", "a"])
        self.assertEqual(follow(names=[], machine=machine), [])

    def test_wrong_rows(self):
        machine = Machine(["a"], ["z"], FOLLOWER)
        for thing in anything() + ["a", {"a": 1}, None]:
            with self.subTest(thing=names(thing)):
                if not isinstance(thing, (list, tuple)):
                    self.refuses(InvalidName, {"name": None}, follow, machine, thing)
        # A name that is no input comes ahead of choking.
        other = Machine(["a", "b"], [], [(0, ["a"], [], 1)])
        self.refuses(InvalidName, {"name": "z"}, follow, other, ["b", "b", "z", "y"])
        self.refuses(Choke, {"at": 1}, follow, other, ["a", "b", "a"])

    def test_ways(self):
        for machine in some_machines(60, 9, 8):
            for many in range(6 if len(machine.inputs) < 3 else 5):
                rows = itertools.product(machine.inputs, repeat=many)
                self.assertEqual(ways(machine, many), sum(isinstance(slow_follow(machine, row), list) for row in rows))
        self.assertEqual(ways(many=4, machine=Machine(["a"], ["z"], FOLLOWER)), 1)

    def test_ways_of_many_inputs(self):
        both = [(0, ["a", "b"], [], 1), (1, ["a", "b"], [], 0)]
        self.assertEqual([ways(Machine(["a", "b"], [], both), many) for many in (0, 1, 2, 3, 1999, 2000)],
                         [1, 2, 2, 4, 2 ** 1000, 2 ** 1000])
        # In each state one of three inputs may come.
        arcs = [(s, [n], [], s ^ 1 << k) for s in range(8) for k, n in enumerate(("a", "b", "c")) if s != 7 or k == 0]
        arcs = [arc for arc in arcs if arc[0] in (0, 1, 2, 4)]
        self.assertEqual(ways(Machine(["a", "b", "c"], [], arcs), 2), 9)
        free = [(s, [n], [], s ^ 1 << k) for s in range(4) for k, n in enumerate(("a", "b"))]
        self.assertEqual(ways(Machine(["a", "b"], [], free), 2000), 2 ** 2000)
        self.assertEqual(ways(Machine(["a"], ["z"], FOLLOWER), 2000), 1)
        once = Machine(["a", "b"], [], [(0, ["a"], [], 1)])
        self.assertEqual([ways(once, many) for many in (0, 1, 2, 2000)], [1, 1, 0, 0])

    def test_wrong_numbers(self):
        machine = Machine(["a"], ["z"], FOLLOWER)
        for thing in [-1, 2001, 2002, 10 ** 9, True, False, 1.0, "1", None, [1], *anything()]:
            with self.subTest(thing=names(thing)):
                if is_int(thing) and 0 <= thing <= 2000:
                    self.assertEqual(ways(machine, thing), 1)
                else:
                    self.refuses(InvalidNumber, {}, ways, machine, thing)


if __name__ == "__main__":
    unittest.main()
