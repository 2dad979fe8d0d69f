"""burstshop.likeness: promises [105] and [106], and [2] to [4] there."""

import itertools
import unittest

from burstshop import likeness as module
from burstshop.errors import Unlike, Unsound
from burstshop.likeness import does, least
from burstshop.machines import Machine, fault, follow
from tests.helper import Case, reached, sample, slow_entries, some_machines

ONE = Machine(["a"], ["z"], [(0, ["a"], ["z"], 1), (1, ["a"], ["z"], 0)])
TWO = Machine(["a"], ["z"], [(0, ["a"], ["z"], 1), (1, ["a"], ["z"], 2), (2, ["a"], ["z"], 3), (3, ["a"], ["z"], 2)])
# A machine that enters the state 1 with two values, and one with two equal bursts.
UNSOUND = [(Machine(["a"], ["z"], [(0, ["a"], [], 1), (1, ["a"], [], 1)]), ("entry", 1)),
           (Machine(["a"], ["z"], [(0, ["a"], [], 1), (0, ["a"], [], 2)]), ("within", 0))]


def places(machine, burst):
    return tuple(machine.inputs.index(name) for name in burst)


def next_arcs(machine, state):
    """A dict from the bursts of a state to flips and next state, in the order of [105]."""
    arcs = sorted((arc for arc in machine.arcs if arc[0] == state), key=lambda arc: places(machine, arc[1]))
    return {burst: (flips, after) for _, burst, flips, after in arcs}


def slow_does(one, other):
    """The words of [105], for machines with few arcs: row by row, up to a length behind which nothing new comes."""
    rows = [([], 0, 0)]
    for _ in range(len(reached(one)) * len(reached(other)) + 1):
        longer = []
        for row, own, theirs in rows:
            for burst, (flips, after) in next_arcs(other, theirs).items():
                mine = next_arcs(one, own).get(burst)
                if mine is None or mine[0] != flips:
                    return row + [burst]
                longer.append((row + [burst], mine[1], after))
        if len(longer) > 3000:
            return "too many rows"
        rows = longer
    return None


def slow_least(machine):
    """The words of [106]: pairs of states that differ are found first."""
    states = reached(machine)
    values = slow_entries(machine)
    arcs = {state: next_arcs(machine, state) for state in states}
    shows = {s: {burst: flips for burst, (flips, _) in arcs[s].items()} for s in states}
    apart = {(p, q) for p in states for q in states if values[p] != values[q] or shows[p] != shows[q]}
    more = True
    while more:
        more = {(p, q) for p in states for q in states if (p, q) not in apart
                and any((arcs[p][burst][1], arcs[q][burst][1]) in apart for burst in arcs[p])}
        apart |= more
    alike = {p: min(q for q in states if (p, q) not in apart) for p in states}
    order = [alike[0]]
    rows = []
    for at, state in enumerate(order):
        for burst, (flips, after) in arcs[state].items():
            if alike[after] not in order:
                order.append(alike[after])
            rows.append((at, burst, flips, order.index(alike[after])))
    return Machine(machine.inputs, machine.outputs, rows)


def variant(machine, source):
    """A sound machine that differs from another one a little, or that does the same with other states."""
    arcs = list(machine.arcs)
    states = reached(machine)
    kind = source.randrange(6)
    if kind == 0 and arcs:
        arcs.pop(source.randrange(len(arcs)))
    elif kind == 1 and machine.outputs and len(states) > 1:
        state, name = source.choice(states[1:]), source.choice(machine.outputs)
        arcs = [(s, burst, sorted(set(flips) ^ ({name} if state in (s, t) else set())), t) for s, burst, flips,
                t in arcs]
    elif kind in (2, 3) and len(states) < 8:
        old, new = source.choice(states), source.choice([state for state in range(8) if state not in states])
        arcs = [arc for arc in arcs if arc[0] != new and arc[0] in states]
        arcs = [(*arc[:3], new) if arc[3] == old and source.randrange(2) else arc for arc in arcs]
        arcs += [(new, *arc[1:]) for arc in arcs if arc[0] == old]
    elif kind == 4:
        values = slow_entries(machine)
        arcs = [arc if arc[0] not in states else (*arc[:3],
                                                  source.choice([s for s in states if values[s] == values[arc[3]]]))
                for arc in arcs]
    else:
        numbers = [0] + source.sample(range(1, 8), 7)
        arcs = [(numbers[s], burst, flips, numbers[t]) for s, burst, flips, t in arcs]
    source.shuffle(arcs)
    return Machine(machine.inputs, machine.outputs, arcs[:16])


def pairs(many, seed):
    """Pairs of sound machines with the same inputs and outputs."""
    source = sample(seed)
    rows = []
    for machine in some_machines(many, seed, 5):
        other = machine
        for _ in range(source.randint(0, 3)):
            other = variant(other, source)
        assert fault(other) is None
        rows.append((machine, other))
    return rows


class Doing(Case):
    def test_the_interface(self):
        self.stands_in(module, ["does", "least"])

    def test_the_example_of_the_document(self):
        other = Machine(["a"], ["z"], [(0, ["a"], ["z"], 1), (1, ["a"], [], 2)])
        self.assertEqual([least(TWO) == ONE, does(ONE, other)], [True, [("a",), ("a",)]])

    def test_does(self):
        ab, abc = ["a", "b"], ["a", "b", "c"]

        def two(*arcs):
            return Machine(ab, ["z"], arcs)
        nothing, single, both = two(), two((0, ["a"], [], 1)), two((0, ab, [], 1))
        each = two((0, ["b"], [], 2), (0, ["a"], [], 1))
        told = [
            (nothing, nothing, None), (single, nothing, None), (nothing, single, [("a",)]),
            (nothing, both, [("a", "b")]),
            (single, both, [("a", "b")]), (both, single, [("a",)]), (each, single, None), (single, each, [("b",)]),
            (nothing, each, [("a",)]), (single, two((0, ["a"], ["z"], 1)), [("a",)]), (TWO, ONE, None),
            (ONE, TWO, None),
            (both, each, [("a",)]), (each, each, None),
            # A shorter row comes first, then the one whose bursts come first.
            (each, two((0, ["b"], ["z"], 2), (0, ["a"], [], 1), (1, ["a"], [], 3)), [("b",)]),
            (each, two((0, ["b"], [], 2), (2, ["a"], [], 3), (0, ["a"], [], 1), (1, ["b"], [], 3)), [("a",), ("b",)]),
            (each, two((0, ["b"], [], 2), (2, ["a"], [], 3), (0, ["a"], [], 1), (1, ["b"], [], 3), (1, ["a"], [], 0)),
             [("a",), ("a",)]),
        ]
        for one, other, row in told:
            self.assertEqual(slow_does(one, other), row)
            self.assertEqual(does(one, other), row)
            self.assertEqual(does(other=other, one=one), row)
        # A burst is ordered by the positions of its inputs, not by their names.
        turned = Machine(["b", "a"], [], [(0, ["a"], [], 1), (0, ["b"], [], 2)])
        self.assertEqual(does(Machine(["b", "a"], [], []), turned), [("b",)])
        long = Machine(abc, [], [(0, ["a", "c"], [], 1), (0, ["b"], [], 2)])
        self.assertEqual(does(Machine(abc, [], []), long), [("a", "c")])
        longer = Machine(abc, [], [(0, ["b", "c"], [], 1), (0, ["a", "c"], [], 2), (0, ["a", "b"], [], 3)])
        self.assertEqual(does(Machine(abc, [], []), longer), [("a", "b")])
        self.assertEqual(does(Machine(abc, [], [(0, ["a", "b"], [], 1)]), longer), [("a", "c")])

    def test_does_by_chance(self):
        seen = {}
        for one, other in pairs(1200, 1):
            told = slow_does(one, other)
            if told != "too many rows":
                found = does(one, other)
                self.assertEqual(found, told)
                length = None if told is None else len(told)
                seen[length] = seen.get(length, 0) + 1
                if told is not None:
                    self.assertIs(type(found), list)
                    self.assertEqual({type(burst) for burst in found}, {tuple})
                    self.is_new(does, one, other)
        for length in (None, 1, 2, 3):
            self.assertGreater(seen[length], 5)

    def test_what_one_does_it_follows(self):
        source = sample(2)
        many = 0
        for one, other in pairs(200, 3):
            if does(one, other) is None:
                for _ in range(6):
                    row, machine_row = [], []
                    state = 0
                    while len(row) < 6 and next_arcs(other, state):
                        burst, (_, state) = source.choice(list(next_arcs(other, state).items()))
                        machine_row = source.sample(burst, len(burst))
                        row += machine_row
                    row = row[:source.randint(0, len(row))]
                    self.assertEqual(follow(one, row), follow(other, row))
                    many += len(row)
        self.assertGreater(many, 500)

    def test_errors(self):
        for machine, (why, at) in UNSOUND:
            told = {"why": why, "at": at}
            self.refuses(Unsound, told, does, machine, ONE)
            self.refuses(Unsound, told, does, ONE, machine)
            self.refuses(Unsound, told, least, machine)
            # What is unsound comes ahead of what is unlike, the first machine ahead of the other one.
            self.refuses(Unsound, told, does, machine, Machine(["b"], [], []))
            self.refuses(Unsound, told, does, Machine(["b"], [], []), machine)
            for other, _ in UNSOUND:
                self.refuses(Unsound, told, does, machine, other)
        kinds = [(["a"], []), (["b"], []), (["a", "b"], []), (["b", "a"], []), (["a"], ["z"]), (["a"], ["z", "y"]),
                 (["a"], ["y", "z"])]
        for one, other in itertools.product(kinds, repeat=2):
            machines = [Machine(*one, []), Machine(*other, [])]
            if one == other:
                self.assertIsNone(does(*machines))
            else:
                self.refuses(Unlike, {}, does, *machines)


class Least(Case):
    def test_least(self):
        told = [
            (Machine(["a"], [], []), ()), (Machine(["a"], [], [(5, ["a"], [], 6)]), ()), (ONE, ONE.arcs),
            (TWO, ONE.arcs),
            (Machine(["a"], [], [(0, ["a"], [], 7), (7, ["a"], [], 0)]), ((0, ("a",), (), 1), (1, ("a",), (), 0))),
            # States that wait for nothing are one state only if they are entered with the same values.
            (Machine(["a", "b"], [], [(0, ["b"], [], 3), (0, ["a"], [], 2)]), ((0, ("a",), (), 1), (0, ("b",), (), 2))),
            (Machine(["a", "b"], [], [(0, ["b"], [], 3), (0, ["a"], [], 2), (2, ["b"], [], 5), (3, ["a"], [], 4)]),
             ((0, ("a",), (), 1), (0, ("b",), (), 2), (1, ("b",), (), 3), (2, ("a",), (), 3))),
            (Machine(["a", "b"], ["z"], [(0, ["b"], [], 3), (0, ["a"], [], 2), (2, ["b"], ["z"], 5),
                                         (3, ["a"], [], 4)]),
             ((0, ("a",), (), 1), (0, ("b",), (), 2), (1, ("b",), ("z",), 3), (2, ("a",), (), 4))),
        ]
        for machine, arcs in told:
            found = least(machine)
            self.assertEqual([found.inputs, found.outputs, found.arcs], [machine.inputs, machine.outputs, arcs])
            self.says(True, found == slow_least(machine))
        self.says(True, least(machine=TWO) == ONE)

    def test_least_by_chance(self):
        source = sample(4)
        fewer = 0
        for machine in some_machines(300, 5, 6):
            for other in (machine, variant(machine, source), variant(variant(machine, source), source)):
                found = least(other)
                self.assertEqual([found.inputs, found.outputs, found.arcs],
                                 [other.inputs, other.outputs, slow_least(other).arcs])
                fewer += len(reached(found)) < len(reached(other))
        self.assertGreater(fewer, 50)

    def test_the_least_machine_is_sound_and_alike(self):
        for machine, _ in pairs(150, 6):
            found = least(machine)
            self.assertIsNone(fault(found))
            self.assertEqual([does(found, machine), does(machine, found)], [None, None])
            self.says(True, least(found) == found)
            self.assertEqual(reached(found), list(range(len(reached(found)))))

    def test_machines_are_alike_exactly_if_their_least_ones_are_equal(self):
        seen = {True: 0, False: 0}
        for one, other in pairs(300, 7):
            alike = does(one, other) is None and does(other, one) is None
            self.says(alike, least(one) == least(other))
            seen[alike] += 1
            if alike:
                self.assertLessEqual(len(reached(least(one))), len(reached(other)))
        self.assertGreater(min(seen.values()), 50)


if __name__ == "__main__":
    unittest.main()
