"""burstshop.webs: promises [170] to [175], and [2] to [4] there."""

import copy
import inspect
import itertools
import unittest

from burstshop import webs as module
from burstshop.errors import (InvalidBurst, InvalidParts, InvalidStanding, LimitExceeded, TwoSenders, Unlike, Unsound)
from burstshop.likeness import does, least
from burstshop.machines import Machine, fault
from burstshop.webs import Web, react, stands_for
from tests.circuits import FOLLOWER, UNSOUND
from tests.helper import Case, anything, names, reached, sample, subsets
from tests.test_likeness import pairs, variant

FORK = Machine(["a"], ["x", "y"], [(0, ["a"], ["x", "y"], 1), (1, ["a"], ["x", "y"], 0)])
JOIN = Machine(["x", "y"], ["z"], [(0, ["x", "y"], ["z"], 1), (1, ["x", "y"], ["z"], 0)])
# A ring that goes round for ever once a has come.
RING = [Machine(["a", "y"], ["x"], [(0, ["a"], ["x"], 1), (1, ["y"], ["x"], 2), (2, ["y"], ["x"], 1)]),
        Machine(["x"], ["y"], [(0, ["x"], ["y"], 1), (1, ["x"], ["y"], 0)])]
# Webs with just 4000 and just 4001 standings behind the burst of all their inputs, a part in a line: inputs,
# outputs, and arcs of state, burst, "-", flips and next state.
LARGE = ["""
sab pqr 1ab-q2 6sa-q2 3sab-r7 5ab-q7 4sab-p6 0b-pr1 0s-pr6 2ab-q1 5s-qr3 6sb-pq3 0a-pqr2 2s-pr7 7sb-qr4 1s-pr5
xrb stu 4x-tu2 4r-su0 0r-su4 5xb-tu7 6xr-su3 0x-st5 0b-st6 3xr-su6 7xrb-tu2 5xr-tu4 1xrb-stu2 2xrb-stu1
tpc vwx 5tpc-wx4 2tp-x7 0c-x4 6p-vx0 1tpc-vw3 0t-vw1 7tpc-x5 4tp-wx2 3tpc-vw1 0p-vx6 6c-vx3 6t-vwx5""", """
sab pqr 0b-pqr7 0a-pqr5 6sab-0 2s-pqr5 5s-pqr2 2b-6 3sab-pqr5 7s-pqr3 5b-pqr1 4sb-p2 1sa-3 7a-qr4
qpr stu 0p-1 3qr-st6 7qpr-s0 6pr-s2 2qpr-4 0r-stu2 3pr-tu5 0q-st5 5qp-su6 5pr-tu3 4r-tu7 1q-stu4 4q-stu1 3qp-t2 1pr-stu2
rtc vwx 1rtc-wx6 0t-w4 7rtc-vw0 4tc-v6 4rc-v2 3rt-x7 2rtc-vw0 0r-vx5 5r-vx0 4rt-vwx5 5t-1 0c-vwx3 6rt-7"""]


def told_web(text):
    parts = []
    for line in text.strip().split("\n"):
        ins, outs, *arcs = line.split(" ")
        rows = []
        for arc in arcs:
            burst, flips = arc[1:-1].split("-")
            rows.append((int(arc[0]), list(burst), list(flips), int(arc[-1])))
        parts.append(Machine(list(ins), list(outs), rows))
    return Web(parts)


class Reaction:
    """All orders of arrivals behind a burst, by the words of [171] and [172]."""

    def __init__(self, web, standing, burst):
        self.parts = web.parts
        ways = {name: [k for k, part in enumerate(web.parts) if name in part.inputs] for name in burst}
        way = frozenset((name, k) for name in burst for k in ways[name])
        self.first = (tuple((state, frozenset(arrived)) for state, arrived in standing[0]), way)
        # How many arrivals lead to each standing at least, and what comes of each arrival.
        self.depth, self.after = {self.first: 0}, {}
        self.least = {"choke": None, "overrun": None, "race": None}
        rows = [self.first]
        for now in rows:
            if self.is_race(now):
                self.note("race", self.depth[now])
            self.after[now] = {}
            for turning in sorted(now[1]):
                word, other, flips = self.arrive(now, turning)
                self.after[now][turning] = (word, other, flips)
                if word != "on":
                    self.note(word, self.depth[now] + 1)
                elif other not in self.depth:
                    self.depth[other] = self.depth[now] + 1
                    rows.append(other)

    def note(self, word, many):
        if self.least[word] is None:
            self.least[word] = many

    def bursts(self, k, state):
        return {frozenset(arc[1]): arc for arc in self.parts[k].arcs if arc[0] == state}

    def arrive(self, now, turning):
        standings, way = now
        name, k = turning
        state, arrived = standings[k]
        bursts, whole = self.bursts(k, state), arrived | {name}
        if name in arrived or not any(whole <= burst for burst in bursts):
            return ("choke", None, ())
        flips = bursts[whole][2] if whole in bursts else ()
        new = [(flip, r) for flip in flips for r, part in enumerate(self.parts) if flip in part.inputs]
        rest = way - {turning}
        if rest & set(new):
            return ("overrun", None, ())
        told = (bursts[whole][3], frozenset()) if whole in bursts else (state, whole)
        return ("on", (standings[:k] + (told,) + standings[k + 1:], rest | set(new)), flips)

    def is_race(self, now):
        standings, way = now
        for (name, k), (other, r) in itertools.combinations(sorted(way), 2):
            state, arrived = standings[k]
            if k == r and arrived | {name} in self.bursts(k, state) and arrived | {other} in self.bursts(k, state):
                return True
        return False

    def word(self):
        """The word of the answer."""
        for word in ("choke", "overrun", "race"):
            if self.least[word] is not None:
                return word
        return "endless" if self.goes_round() else "rest"

    def goes_round(self):
        """Whether the arrivals can go on for ever: some standings are left when ends are taken away again and again."""
        into, left = {now: [] for now in self.after}, {}
        for now, rows in self.after.items():
            left[now] = len(rows)
            for _, other, _ in rows.values():
                into[other].append(now)
        ends = [now for now in left if left[now] == 0]
        for now in ends:
            for before in into[now]:
                left[before] -= 1
                if left[before] == 0:
                    ends.append(before)
        return len(ends) < len(left)

    def walk(self, row):
        """The standings along a row of arrivals, and the word of the last one."""
        rows, word = [self.first], "on"
        for turning in row:
            assert word == "on" and turning in self.after[rows[-1]]
            word, other, _ = self.after[rows[-1]][turning]
            rows.append(other)
        return rows, word

    def told(self, now):
        """A standing as the program tells it."""
        standings = tuple((state, tuple(name for name in part.inputs if name in arrived))
                          for part, (state, arrived) in zip(self.parts, now[0]))
        return (standings, tuple(sorted(now[1])))

    def ends(self):
        """All ends as the program tells them, each with how often outputs turn and how many arrivals there were."""
        found, waiting = set(), {(self.first, (), 0)}
        while waiting:
            later = set()
            for now, turns, many in waiting:
                if not now[1]:
                    found.add((self.told(now), turns, many))
                for _, other, flips in self.after[now].values():
                    out = [name for name in flips if not any(name in part.inputs for part in self.parts)]
                    later.add((other, tuple(sorted(turns + tuple(out))), many + 1))
            waiting = later
        return found


def slow_web(parts):
    """The inputs and the outputs of a web, by the words of [170]."""
    ins = list(dict.fromkeys(name for part in parts for name in part.inputs))
    outs = [name for part in parts for name in part.outputs]
    return tuple(n for n in ins if n not in outs), tuple(n for n in outs if n not in ins)


def random_part(source, ins, outs, many, whole):
    """A sound machine with these names; if whole is true most bursts have one input."""
    values = [(frozenset(), frozenset())]
    values += [tuple(frozenset(n for n in some if source.randrange(2)) for some in (ins, outs)) for _ in range(7)]
    rows = []
    for _ in range(12 * many):
        s, t = source.randrange(many), source.randrange(many)
        burst, flips = [sorted(a ^ b) for a, b in zip(values[s], values[t])]
        bursts = [set(other) for own, other, _, _ in rows if own == s]
        fits = not any(set(burst) <= other or other <= set(burst) for other in bursts)
        if burst and fits and len(rows) < 16 and (len(burst) == 1 or not whole):
            rows.append((s, burst, flips, t))
    return Machine(ins, outs, rows)


def taking_part(source, ins, outs):
    """A sound machine that takes each of its one or two inputs in each state, so that it never chokes."""
    copies = source.choice([1, 1, 2])
    few = [frozenset(n for n in outs if source.randrange(3) == 0) for _ in range(8)]
    rows = []
    for state in range(copies << len(ins)):
        for k, name in enumerate(ins):
            after = (state ^ 1 << k) % (1 << len(ins)) + (source.randrange(copies) << len(ins))
            turned = (few[state] if state else set()) ^ (few[after] if after else set())
            rows.append((state, [name], sorted(turned), after))
    return Machine(ins, outs, rows)


def random_web(source):
    """A web of 1 to 3 parts."""
    many = source.randint(1, 3)
    given = [["p", "q", "r"][:source.randint(0, 3)], ["s", "t"][:source.randint(0, 2)], ["u", "v"]][:many]
    taking, parts = source.randrange(2), []
    for k in range(many):
        others = [name for j in range(many) if j != k for name in given[j]]
        pool = ["a", "b"][:source.choice([1, 1, 2])] + others
        ins = source.sample(pool, min(len(pool), source.randint(1, 2 if taking else 3)))
        if taking:
            parts.append(taking_part(source, ins, given[k]))
        else:
            parts.append(random_part(source, ins, given[k], source.choice([2, 3, 4, 8]), source.randrange(3)))
    return Web(parts)


def lines(source):
    """A web without much that can go wrong: forks, joins, followers and rings, with other outputs by chance."""
    fork = Machine(["a"], ["x", "y"], [(0, ["a"], ["x", "y"], 1), (1, ["a"], ["x", "y"], 0)])
    half = Machine(["x"], ["w"], [(0, ["x"], ["w"], 1), (1, ["x"], [], 2), (2, ["x"], ["w"], 3), (3, ["x"], [], 0)])
    after = Machine(["y", "w"], ["z"], [(0, ["y", "w"], ["z"], 1), (1, ["y"], [], 2), (2, ["y", "w"], ["z"], 3),
                                        (3, ["y"], ["z"], 4)])
    ring = [Machine(["a", "y"], ["x", "o"], [
        (0, ["a"], ["x"], 1), (1, ["y"], ["x", "o"], 2), (2, ["y"], ["x"], 3), (3, ["y"], ["o"], 4)]),
        RING[1]]
    rows = [[fork, JOIN], [fork, half], [fork, half, after], RING, ring, [JOIN, fork], [ring[1], ring[0]],
            [fork, Machine(["x"], ["v"], [(0, ["x"], ["v"], 1), (1, ["x"], ["v"], 0)]),
             Machine(["y", "v"], ["z"], [(0, ["y", "v"], ["z"], 1), (1, ["y", "v"], ["z"], 0)])],
            [FOLLOWER], [fork], [JOIN], [FOLLOWER, Machine(["z"], ["o"], [(0, ["z"], ["o"], 1), (1, ["z"], ["o"], 0)])]]
    return Web(source.choice(rows))


def quiet_standings(web, source, many):
    """Some quiet standings of reached states, not only those that reactions lead to."""
    rows = [web.begin()]
    while len(rows) < many:
        standings = []
        for part in web.parts:
            state = source.choice(reached(part))
            begun = [()] + [some for some in subsets(part.inputs)
                            if any(set(some) < set(arc[1]) for arc in part.arcs if arc[0] == state)]
            standings.append((state, source.choice(begun)))
        rows.append((tuple(standings), ()))
    return rows


class Webs(Case):
    def test_the_interface(self):
        self.stands_in(module, ["Web", "react", "stands_for"])
        for name in ("__init__", "begin"):
            self.assertIn(name, vars(Web))
        told = {Web: ["parts"], react: ["web", "standing", "burst"], stands_for: ["web", "machine"]}
        for thing, arguments in told.items():
            self.assertEqual(list(inspect.signature(thing).parameters), arguments)

    def test_the_examples_of_the_document(self):
        web = Web([FORK, JOIN])
        self.assertEqual([web.inputs, web.outputs, react(web, web.begin(), ["a"]), stands_for(web, FOLLOWER)],
                         [("a",), ("z",), ("rest", (((1, ()), (1, ())), ()), {"z": 1}), None])
        arcs = [(0, ("x",), ("p",), 1), (0, ("y",), ("q",), 2), (1, ("y",), (), 3), (2, ("x",), (), 4)]
        web = Web([FORK, Machine(("x", "y"), ("p", "q"), arcs)])
        self.assertEqual(react(web, web.begin(), ["a"]), ("race", [("a", 0)]))

    def test_a_web(self):
        rows = [FORK, JOIN]
        web = Web(rows)
        self.assertIs(type(web.parts), tuple)
        self.assertEqual(len(web.parts), 2)
        self.says(True, web.parts[0] == FORK and web.parts[1] == JOIN)
        rows.clear()
        self.assertEqual(len(web.parts), 2)
        self.assertEqual(web.begin(), (((0, ()), (0, ())), ()))
        told = [
            # An output with no wire, with one and with several; an input that goes to several parts.
            ([FORK], ("a",), ("x", "y")), ([JOIN, FORK], ("a",), ("z",)), ([FOLLOWER], ("a",), ("z",)),
            ([Machine(["c", "a"], ["z"], []), Machine(["b", "z"], ["o"], []), Machine(["z", "a", "d"], ["e"], [])],
             ("c", "a", "b", "d"), ("o", "e")),
            ([Machine(["b"], ["x"], []), Machine(["x"], ["b"], [])], (), ()),
            ([Machine(["a"], [], []), Machine(["a"], [], []), Machine(["b", "a"], [], [])], ("a", "b"), ()),
        ]
        for parts, ins, outs in told:
            web = Web(parts=tuple(parts))
            self.assertEqual([web.inputs, web.outputs, web.begin()], [ins, outs, (((0, ()),) * len(parts), ())])
        source = sample(1)
        for _ in range(100):
            web = random_web(source)
            self.assertEqual((web.inputs, web.outputs), slow_web(web.parts))

    def test_wrong_parts(self):
        for thing in anything():
            with self.subTest(thing=names(thing)):
                if not isinstance(thing, (list, tuple)) or len(thing) not in (1, 2, 3):
                    self.refuses(InvalidParts, {"at": -1}, Web, thing)
        for thing in anything(39):
            if not isinstance(thing, Machine):
                self.refuses(InvalidParts, {"at": 0}, Web, [thing])
                self.refuses(InvalidParts, {"at": 1}, Web, (FORK, thing, None))
                self.refuses(InvalidParts, {"at": 2}, Web, [FORK, JOIN, thing])
        self.refuses(InvalidParts, {"at": -1}, Web, [FORK] * 4)
        self.refuses(InvalidParts, {"at": -1}, Web, [])
        for machine, told in UNSOUND:
            self.refuses(Unsound, told, Web, [machine])
            self.refuses(Unsound, told, Web, [FORK, machine, UNSOUND[0][0]])
            # What is no machine comes ahead, two senders behind.
            self.refuses(InvalidParts, {"at": 2}, Web, [machine, machine, None])
            self.refuses(Unsound, told, Web, [FORK, FORK, machine])

        def give(*outs):
            return Machine(["a"], list(outs), [])

        told = [([FORK, FORK], "x"), ([give("p", "q"), give("q", "p")], "q"),
                ([give("p"), give("q"), give("r", "p")], "p"),
                ([give("p"), give("p"), give("p")], "p"), ([give("p", "q"), give("r", "q"), give("p")], "q"),
                ([give("p", "q"), give("r"), give("r", "q", "p")], "r")]
        for parts, name in told:
            self.refuses(TwoSenders, {"name": name}, Web, parts)


class React(Case):
    def check(self, web, standing, burst):
        """Judge an answer by all orders of arrivals; return its word."""
        told = Reaction(web, standing, burst)
        if len(told.after) > 4000:
            self.refuses(LimitExceeded, {"limit": 4000}, react, web, standing, burst)
            return "limit"
        answer = react(web, standing, burst)
        word = told.word()
        self.assertIs(type(answer), tuple)
        self.assertEqual(answer[0], word)
        if word == "rest":
            (end, turns, _), = told.ends()
            self.assertEqual(answer, ("rest", end, {name: turns.count(name) for name in turns}))
            self.assertIs(type(answer[2]), dict)
            return word
        row, = answer[1:]
        self.assertIs(type(row), list)
        standings, last = told.walk(row)
        if word == "race":
            self.says(True, told.is_race(standings[-1]))
        elif word == "endless":
            self.assertIn(standings[-1], standings[:-1])
            self.assertEqual(len(set(standings[:-1])), len(row))
        else:
            self.assertEqual(last, word)
        if word != "endless":
            self.assertEqual(len(row), told.least[word])
        return word

    def test_small_reactions(self):
        web = Web([FORK, JOIN])
        for standing, burst, found in (
                (web.begin(), ("a",), ("rest", (((1, ()), (1, ())), ()), {"z": 1})),
                ((((1, ()), (1, ())), ()), ["a"], ("rest", (((0, ()), (0, ())), ()), {"z": 1})),
                ((((0, ()), (1, ())), ()), ["a"], ("rest", (((1, ()), (0, ())), ()), {"z": 1}))):
            self.assertEqual(react(web, standing, burst), found)
            self.check(web, standing, burst)
        # The join waits already for y alone: x chokes, whenever it comes.
        self.check(web, (((0, ()), (0, ("x",))), ()), ["a"])
        self.assertEqual(react(web, (((0, ()), (0, ("x",))), ()), ["a"]), ("choke", [("a", 0), ("x", 1)]))
        # An input that arrives and makes no burst whole; one that the part does not wait for.
        join = Web([JOIN])
        self.assertEqual(react(join, join.begin(), ["y"]), ("rest", (((0, ("y",)),), ()), {}))
        self.assertEqual(react(join, join.begin(), ["y", "x"]), ("rest", (((1, ()),), ()), {"z": 1}))
        self.assertEqual(react(join, (((0, ("y",)),), ()), ["y"]), ("choke", [("y", 0)]))
        self.assertEqual(react(standing=((((0, ("y",)),), ())), burst=("x",), web=join),
                         ("rest", (((1, ()),), ()), {"z": 1}))

    def test_a_reaction_that_goes_on_for_ever(self):
        web = Web(RING)
        self.assertEqual(react(web, web.begin(), ["a"]),
                         ("endless", [("a", 0), ("x", 1), ("y", 0), ("x", 1), ("y", 0)]))
        self.check(web, web.begin(), ["a"])
        # The standing ahead of the first turning comes again.
        again = Web([Machine(["a", "y"], ["x"], [(0, ["a"], ["x"], 1), (1, ["y"], ["x"], 2), (2, ["y"], ["x"], 1)]),
                     Machine(["x"], ["y"], [(0, ["x"], ["y"], 1), (1, ["x"], ["y"], 0)])])
        self.assertEqual(self.check(again, (((0, ()), (1, ())), ()), ["a"]), "endless")

    def test_an_overrun(self):
        # b flips x twice on its way, while the first turning may be on the way still.
        twice = Machine(["a", "b"], ["x"], [(0, ["a"], ["x"], 1), (0, ["b"], ["x"], 2), (1, ["b"], ["x"], 3),
                                            (2, ["a"], ["x"], 3)])
        end = Machine(["x"], [], [(0, ["x"], [], 1), (1, ["x"], [], 0)])
        web = Web([twice, end])
        answer = react(web, web.begin(), ["b", "a"])
        self.assertEqual([answer[0], len(answer[1])], ["overrun", 2])
        self.check(web, web.begin(), ["b", "a"])
        # A choke comes ahead of an overrun, an overrun ahead of a race, even if they need longer rows.
        late = Web([twice, Machine(["x"], [], [(0, ["x"], [], 1)])])
        answer = react(late, late.begin(), ["a", "b"])
        self.assertEqual([answer[0], len(answer[1])], ["choke", 4])
        self.check(late, late.begin(), ["a", "b"])

    def test_an_output_that_turns_several_times(self):
        many = Machine(["a", "y"], ["x", "o"], [(0, ["a"], ["x", "o"], 1), (1, ["y"], ["x", "o"], 2),
                                                (2, ["y"], ["o"], 3), (3, ["a"], ["x"], 4), (4, ["y"], [], 5)])
        web = Web([RING[1], many])
        self.assertEqual(react(web, web.begin(), ["a"]), ("rest", (((0, ()), (3, ())), ()), {"o": 3}))
        self.assertEqual(self.check(web, (((0, ()), (3, ())), ()), ["a"]), "rest")

    def test_reactions_by_chance(self):
        source = sample(2)
        seen = {}
        for k in range(900):
            web = random_web(source) if k % 3 else lines(source)
            if web.inputs:
                for standing in quiet_standings(web, source, 3):
                    burst = source.choice(subsets(web.inputs))
                    word = self.check(web, standing, source.sample(burst, len(burst)))
                    seen[word] = seen.get(word, 0) + 1
        for word in ("choke", "overrun", "race", "endless", "rest"):
            self.assertGreater(seen[word], 20, word)

    def test_each_order_ends_alike(self):
        source = sample(3)
        seen = {"endless": 0, "rest": 0}
        for k in range(1500):
            web = random_web(source) if k % 2 else lines(source)
            for standing in quiet_standings(web, source, 3):
                if web.inputs:
                    told = Reaction(web, standing, source.choice(subsets(web.inputs)))
                    word = told.word()
                    if word == "rest":
                        self.assertEqual(len(told.ends()), 1)
                    elif word == "endless":
                        # No order ends.
                        self.says(False, any(not rows for rows in told.after.values()))
                    seen[word] = seen.get(word, 0) + 1
        self.assertGreater(min(seen.values()), 20)

    def test_4000_standings_and_more(self):
        for text, many in zip(LARGE, (4000, 4001)):
            web = told_web(text)
            told = Reaction(web, web.begin(), web.inputs)
            self.assertEqual(len(told.after), many)
            # Ahead of the answer, also if a choke is come to soon.
            self.assertLess(told.least["choke"], 5)
            self.assertEqual(self.check(web, web.begin(), web.inputs), "choke" if many == 4000 else "limit")
            self.assertEqual(self.check(web, web.begin(), web.inputs[:1]), "choke")
        web = told_web(LARGE[1])
        machine = Machine(web.inputs, web.outputs[:3], [(0, web.inputs, [], 1)])
        self.refuses(Unlike, {}, stands_for, web, machine)
        parts = []
        for part in web.parts:
            rows = [(s, burst, [name for name in flips if name != "v"], t) for s, burst, flips, t in part.arcs]
            parts.append(Machine(part.inputs, [name for name in part.outputs if name != "v"], rows))
        smaller = Web(parts)
        self.refuses(LimitExceeded, {"limit": 4000}, react, smaller, smaller.begin(), smaller.inputs)
        self.refuses(LimitExceeded, {"limit": 4000}, stands_for, smaller,
                     Machine(smaller.inputs, smaller.outputs, [(0, smaller.inputs, [], 1)]))
        # The error of the standing and of the burst come ahead.
        self.refuses(InvalidStanding, {}, react, web, None, web.inputs)
        self.refuses(InvalidBurst, {"at": 3}, react, web, web.begin(), web.inputs + ("a",))

    def test_what_is_no_quiet_standing(self):
        web = Web([FORK, JOIN])
        wrong = [
            (), ((), ()), (((0, ()),), ()), (((0, ()), (0, ()), (0, ())), ()), (((0, ()), (0, ())),),
            (((0, ()), (0, ())), (), ()), [((0, ()), (0, ())), ()], ([(0, ()), (0, ())], ()), (((0, ()), (0, ())), []),
            (((0, ()), (0, ())), (("a", 0),)), (((0, ()), (0, ())), ("a",)), (((0, ()), (0, ())), None),
            (((2, ()), (0, ())), ()), (((0, ()), (7, ())), ()), (((0, ()), (0, ("z",))), ()), (((0, ()), (0, ["x"])),
                                                                                               ()),
            (((0, ()), (0, ("x", "y"))), ()), (((0, ()), (0, ("y", "x"))), ()), (((0, ()), (0, ("x", "x"))), ()),
            (((0, ("a",)), (0, ())), ()), (((True, ()), (0, ())), ()), (((0, ()), (False, ())), ()),
            (((0, ()), (0.0, ())), ()), (((0, ()), [0, ()]), ()), (((0, ()), (0, (), ())), ()), (((0, ()), 0), ()),
            (((0, ()), (-1, ())), ()), ((0, ()), (0, ())),
        ]
        for thing in wrong + anything():
            for burst in (["a"], None, ["b"]):
                self.refuses(InvalidStanding, {}, react, web, thing, burst)
        for thing in anything(37):
            for standing in ((thing, ()), (((0, ()), thing), ()), (((0, ()), (0, thing)), ()), (((0, ()), (thing,
                                                                                                           ())), ()),
                             (((0, ()), (0, (thing,))), ())):
                begun = [(state, some) for state in (0, 1) for some in ((), ("x",), ("y",))]
                if standing not in [(((0, ()), other), ()) for other in begun]:
                    self.refuses(InvalidStanding, {}, react, web, standing, ["a"])
            if not (isinstance(thing, tuple) and thing == ()):
                self.refuses(InvalidStanding, {}, react, web, (((0, ()), (0, ())), thing), ["a"])
        # A state that the part does not reach.
        far = Web([Machine(["a"], [], [(0, ["a"], [], 1), (2, ["a"], [], 3)])])
        self.refuses(InvalidStanding, {}, react, far, (((2, ()),), ()), ["a"])
        self.assertEqual(react(far, (((1, ()),), ()), ["a"]), ("choke", [("a", 0)]))

    def test_what_is_no_burst(self):
        web = Web([Machine(["a", "b"], ["x"], [(0, ["a"], ["x"], 1)]), Machine(["x"], ["o"], [])])
        told = [([], -1), ((), -1), (None, -1), ("a", -1), ("ab", -1), ({"a": 1}, -1), ({"a"}, -1), (["x"], 0),
                (["o"], 0),
                (["a", "a"], 1), (["a", "b", "a"], 2), (["a", "c", "a"], 1), (["a", None], 1), (["a", b"b"], 1),
                ([["a"]], 0), ([True], 0), ([0], 0), ([("a",)], 0), (("b", "x", "b"), 1), (["A"], 0), ([""], 0)]
        for burst, at in told:
            self.refuses(InvalidBurst, {"at": at}, react, web, web.begin(), burst)
        for thing in anything():
            if not isinstance(thing, (list, tuple)) or not thing:
                self.refuses(InvalidBurst, {"at": -1}, react, web, web.begin(), thing)
            self.refuses(InvalidBurst, {"at": 1}, react, web, web.begin(), ["a", thing])
        # A web without inputs takes no burst.
        ring = Web([Machine(["b"], ["x"], [(0, ["b"], ["x"], 1)]), Machine(["x"], ["b"], [])])
        self.refuses(InvalidBurst, {"at": 0}, react, ring, ring.begin(), ["b"])

    def test_no_call_changes_what_it_is_given(self):
        web, burst = Web(RING), ["a"]
        kept = copy.deepcopy((web.begin(), burst))
        first = react(web, web.begin(), burst)
        first[1].append("more")
        self.assertEqual(react(web, web.begin(), burst)[1][-1], ("y", 0))
        web = Web([FORK, JOIN])
        react(web, web.begin(), burst)[2]["more"] = 1
        self.assertEqual(react(web, web.begin(), burst)[2], {"z": 1})
        self.assertEqual((web.begin(), burst), kept)


def slow_stands(web, machine, most):
    """The least length of a list of bursts that goes wrong, up to a number of bursts, or None."""
    rows = [(web.begin(), 0)]
    for many in range(1, most + 1):
        later = []
        for standing, state in rows:
            for own, burst, flips, after in machine.arcs:
                if own == state:
                    told = Reaction(web, standing, burst)
                    if told.word() != "rest":
                        return many
                    (end, turns, _), = told.ends()
                    if turns != tuple(sorted(flips)):
                        return many
                    later.append((end, after))
        rows = list(dict.fromkeys(later))
    return None


class StandsFor(Case):
    def check(self, web, machine):
        """Judge what stands_for returns; return how many bursts it tells."""
        found = stands_for(web, machine)
        many = slow_stands(web, machine, 8 if found is None else len(found[0]))
        if found is None:
            self.assertIsNone(many)
            return 0
        self.assertIs(type(found), tuple)
        bursts, answer = found
        self.assertEqual([type(bursts), len(bursts)], [list, many])
        standing, state = web.begin(), 0
        for k, burst in enumerate(bursts):
            (_, _, flips, after), = [arc for arc in machine.arcs if arc[:2] == (state, burst)]
            told = react(web, standing, burst)
            if k == len(bursts) - 1:
                self.assertEqual(told, answer)
                self.assertFalse(told[0] == "rest" and told[2] == dict.fromkeys(flips, 1))
            else:
                self.assertEqual([told[0], told[2]], ["rest", dict.fromkeys(flips, 1)])
                standing, state = told[1], after
        return many

    def test_stands_for(self):
        web = Web([FORK, JOIN])
        twice = Machine(["a"], ["z"], [(0, ["a"], ["z"], 1), (1, ["a"], ["z"], 2), (2, ["a"], ["z"], 3)])
        for machine in (FOLLOWER, twice, Machine(["a"], ["z"], []), Machine(["a"], ["z"], [(0, ["a"], ["z"], 5)])):
            self.assertIsNone(stands_for(web, machine))
            self.assertIsNone(stands_for(machine=machine, web=web))
        rest = ("rest", (((1, ()), (1, ())), ()), {"z": 1})
        self.assertEqual(stands_for(web, Machine(["a"], ["z"], [(0, ["a"], [], 1)])), ([("a",)], rest))
        late = Machine(["a"], ["z"], [(0, ["a"], ["z"], 1), (1, ["a"], [], 2)])
        self.assertEqual(stands_for(web, late), ([("a",), ("a",)], ("rest", (((0, ()), (0, ())), ()), {"z": 1})))
        # The second burst chokes: the machine goes on, the part does not.
        once = Web([Machine(["a"], ["z"], [(0, ["a"], ["z"], 1)])])
        self.assertEqual(stands_for(once, FOLLOWER), ([("a",), ("a",)], ("choke", [("a", 0)])))
        self.assertEqual(stands_for(Web(RING), Machine(["a"], [], [(0, ["a"], [], 1)]))[1][0], "endless")
        self.assertIsNone(stands_for(Web(RING), Machine(["a"], [], [])))
        # An output that turns three times is not one that turns once.
        many = Machine(["a", "y"], ["x", "o"], [(0, ["a"], ["x", "o"], 1), (1, ["y"], ["x", "o"], 2),
                                                (2, ["y"], ["o"], 3)])
        web = Web([RING[1], many])
        self.assertEqual(stands_for(web, Machine(["a"], ["o"], [(0, ["a"], ["o"], 1)])),
                         ([("a",)], ("rest", (((0, ()), (3, ())), ()), {"o": 3})))

    def test_the_order_of_names_does_not_count(self):
        web = Web([Machine(["b", "a"], ["z", "y"], [(0, ["a", "b"], ["y", "z"], 1), (1, ["b"], ["y"], 2)])])
        machine = Machine(["a", "b"], ["y", "z"], [(0, ["a", "b"], ["y", "z"], 1), (1, ["b"], ["z"], 2)])
        self.assertEqual(stands_for(web, machine), ([("a", "b"), ("b",)], ("rest", (((2, ()),), ()), {"y": 1})))

    def webs_and_machines(self, many, seed):
        """Pairs of a web and a machine that does, from the beginning on, what the web answers to single inputs."""
        source = sample(seed)
        rows = []
        while len(rows) < many:
            web = lines(source) if source.randrange(3) == 0 else random_web(source)
            if 1 <= len(web.inputs) <= 3 and len(web.outputs) <= 3:
                standings, arcs = [web.begin()], []
                for at, standing in enumerate(standings):
                    for name in web.inputs:
                        told = react(web, standing, [name])
                        fits = told[0] == "rest" and (told[1] in standings or len(standings) < 8)
                        if fits and set(told[2].values()) <= {1} and len(arcs) < 16:
                            standings += [told[1]] if told[1] not in standings else []
                            arcs.append((at, [name], list(told[2]), standings.index(told[1])))
                machine = Machine(web.inputs, web.outputs, arcs)
                if arcs and fault(machine) is None:
                    rows.append((web, machine))
        return rows

    def test_stands_for_by_chance(self):
        source = sample(4)
        seen = {}
        for web, machine in self.webs_and_machines(250, 5):
            self.assertIsNone(stands_for(web, machine))
            for _ in range(3):
                machine = variant(machine, source)
                many = self.check(web, machine)
                seen[many] = seen.get(many, 0) + 1
        for many in (0, 1, 2, 3):
            self.assertGreater(seen[many], 5)

    def test_parts_that_are_replaced(self):
        source = sample(6)
        many = 0
        for web, machine in self.webs_and_machines(150, 7):
            at = source.randrange(len(web.parts))
            # A part that does more, and one that does the same.
            for part in (variant(web.parts[at], source), least(web.parts[at])):
                if does(part, web.parts[at]) is None:
                    parts = web.parts[:at] + (part,) + web.parts[at + 1:]
                    self.assertIsNone(stands_for(Web(parts), machine))
                    many += part != web.parts[at]
            # What the machine does another one that does less does, too.
            fewer = Machine(machine.inputs, machine.outputs, machine.arcs[:-1])
            self.assertIsNone(does(machine, fewer))
            self.assertIsNone(stands_for(web, fewer))
        self.assertGreater(many, 50)

    def test_a_web_of_one_part(self):
        seen = {True: 0, False: 0}
        for part, machine in pairs(200, 8):
            if does(part, machine) is None:
                self.assertIsNone(stands_for(Web([part]), machine))
                seen[True] += 1
            else:
                self.check(Web([part]), machine)
                seen[False] += 1
        self.assertGreater(min(seen.values()), 20)

    def test_errors(self):
        web = Web([FORK, JOIN])
        for machine, told in UNSOUND:
            self.refuses(Unsound, told, stands_for, web, machine)
        for machine in (Machine(["b"], ["z"], []), Machine(["a"], ["y"], []), Machine(["a", "b"], ["z"], []),
                        Machine(["a"], [], []), Machine(["a"], ["z", "y"], []), Machine(["z"], ["a"], []),
                        Machine(["x", "y"], ["z"], []), Machine(["a"], ["x", "y"], [])):
            self.refuses(Unlike, {}, stands_for, web, machine)


if __name__ == "__main__":
    unittest.main()
