"""burstshop.boards: promises [152] to [156] on boards, and [2] to [4] there."""

import copy
import inspect
import itertools
import unittest

from burstshop import boards as module
from burstshop.boards import Board, bad_row
from burstshop.books import book_of
from burstshop.errors import NotAMove
from burstshop.machines import Machine, fault, follow
from burstshop.nets import Net, judged, made
from burstshop.programs import machine_of, openings, told
from burstshop.trees import tree_of
from tests.circuits import BARRED, FOLLOWER, JOIN, entry_signs, has_book, kind_of, slow_judged, some_nets
from tests.helper import Case, anything, leaves_in, names, parts_in, sample, some_trees
from tests.test_programs import some_programs

X, Y, W, ZERO, ONE = ("in", 0), ("in", 1), ("in", 2), ("zero",), ("one",)
GOOD = ("or", (("and", (X, Y)), ("and", (X, W)), ("and", (Y, W))))
METHODS = ["moves", "move", "standing", "signals", "shown", "is_resting", "done", "twin", "wrong"]


def no(tree):
    return ("not", tree)


class Slow:
    """A board by the words of [152] to [154]."""

    def __init__(self, net):
        machine = net.machine
        self.net, self.machine = net, machine
        self.variables = list(machine.inputs) + list(range(len(net.coding[0])))
        self.values = dict(zip(self.variables, "0" * len(machine.inputs) + net.coding[0]))
        self.leaves = [(f, path, self.variables[leaf[1]]) for f, tree in enumerate(net.trees)
                       for path, leaf in leaves_in(tree) if leaf[0] == "in"]
        self.seen = {(f, path): self.values[v] for f, path, v in self.leaves}
        self.entered = {s: outs + net.coding[s] for s, (_, outs) in entry_signs(machine).items()}
        self.state, self.arrived = 0, frozenset()
        self.arc, self.looked, self.waiting, self.shown_new = None, False, frozenset(), frozenset()
        self.many, self.wrong = 0, None
        self.look_if_due()

    def value(self, f, tree, path=()):
        if tree[0] == "in":
            return self.seen[f, path]
        if tree[0] in ("one", "zero"):
            return "1" if tree[0] == "one" else "0"
        found = [self.value(f, part, path + (k,)) for k, part in enumerate(parts_in(tree))]
        if tree[0] == "not":
            return "1" if found == ["0"] else "0"
        return min(found) if tree[0] == "and" else max(found)

    def shown(self):
        return "".join(self.value(f, tree) for f, tree in enumerate(self.net.trees))

    def signals(self):
        return "".join(self.values[v] for v in self.variables)

    def standing(self):
        return (self.state, tuple(name for name in self.machine.inputs if name in self.arrived))

    def late(self):
        return [(f, path) for f, path, v in self.leaves if self.seen[f, path] != self.values[v]]

    def bursts(self):
        return [set(arc[1]) for arc in self.machine.arcs if arc[0] == self.state]

    def moves(self):
        rows = []
        for name in self.machine.inputs:
            fits = any(self.arrived | {name} <= burst for burst in self.bursts())
            if self.arc is None and name not in self.arrived and fits:
                rows.append(("input", name))
        rows += [("leaf", f, path) for f, path in sorted(self.late())]
        return rows + [("wire", j) for j in sorted(self.waiting)]

    def do(self, move):
        if move[0] == "input":
            self.arrived |= {move[1]}
            self.values[move[1]] = "10"[int(self.values[move[1]])]
            for arc in self.machine.arcs:
                if arc[0] == self.state and set(arc[1]) == self.arrived:
                    self.arc = arc
        elif move[0] == "leaf":
            variable = next(v for f, path, v in self.leaves if (f, path) == move[1:])
            self.seen[move[1:]] = self.values[variable]
        else:
            self.values[move[1]] = "10"[int(self.values[move[1]])]
            self.waiting -= {move[1]}
        self.many += 1
        self.look_if_due()

    def look_if_due(self):
        shown, rested = self.shown(), False
        if self.arc is not None and not self.late() and not self.waiting:
            lines = shown[len(self.machine.outputs):]
            self.looked = True
            self.waiting = frozenset(j for j, sign in enumerate(lines) if sign != self.values[j])
            rested = not self.waiting
        fair = self.is_fair(shown)
        if rested:
            code = "".join(self.values[j] for j in range(len(self.net.coding[0])))
            fair = fair and code == self.net.coding[self.arc[3]]
            self.state, self.arrived, self.arc = self.arc[3], frozenset(), None
            self.looked, self.shown_new = False, frozenset()
        if not fair and self.wrong is None:
            self.wrong = self.many

    def is_fair(self, shown):
        old = self.entered[self.state]
        if self.arc is None:
            return shown == old
        new = self.entered[self.arc[3]]
        if self.looked:
            return shown == new
        fair = all(s in (a, b) and not (f in self.shown_new and s == a and a != b)
                   for f, (s, a, b) in enumerate(zip(shown, old, new)))
        self.shown_new |= {f for f, (s, b) in enumerate(zip(shown, new)) if s == b}
        return fair

    def key(self):
        return (self.signals(), tuple(self.seen.values()), self.state, self.arrived, self.arc, self.looked,
                self.waiting, self.shown_new, self.wrong is None)

    def twin(self):
        other = copy.copy(self)
        other.values, other.seen = dict(self.values), dict(self.seen)
        return other


def can_go_wrong(net, most=4000):
    """Whether some row of moves makes a board go wrong, or None if there are too many positions to tell."""
    first = Slow(net)
    seen, waiting = {first.key()}, [first]
    while waiting:
        board = waiting.pop()
        if board.wrong is not None:
            return True
        for move in board.moves():
            other = board.twin()
            other.do(move)
            if other.key() not in seen:
                seen.add(other.key())
                waiting.append(other)
        if len(seen) > most:
            return None
    return False


def answers(board):
    """What all questions tell of a board."""
    return [board.moves(), board.standing(), board.signals(), board.shown(), board.is_resting(), board.done(),
            board.wrong()]


class Interface(Case):
    def test_the_interface(self):
        self.stands_in(module, ["Board", "bad_row"])
        told_of = {"__init__": ["self", "net"], "move": ["self", "thing"]}
        for name in ["__init__"] + METHODS:
            self.assertIn(name, vars(Board))
            self.assertEqual(list(inspect.signature(vars(Board)[name]).parameters), told_of.get(name, ["self"]))
        self.assertEqual(list(inspect.signature(bad_row).parameters), ["net"])

    def test_the_examples_of_the_document(self):
        board = Board(Net(FOLLOWER, ["", ""], [X]))
        self.assertIsNone(board.move(("input", "a")))
        rows = [board.moves(), board.standing()]
        self.assertIsNone(board.move(("leaf", 0, ())))
        self.assertEqual(rows + [board.standing(), board.shown(), board.wrong()],
                         [[("leaf", 0, ())], (0, ("a",)), (1, ()), "1", None])
        self.assertEqual(bad_row(Net(FOLLOWER, ["", ""], [no(X)])), [])


class Moves(Case):
    def both(self, net):
        return Board(net), Slow(net)

    def same(self, board, slow, row):
        resting = slow.standing()[1] == ()
        self.assertEqual(answers(board), [slow.moves(), slow.standing(), slow.signals(), slow.shown(), resting, row,
                                          slow.wrong])
        self.says(resting, board.is_resting())

    def play(self, net, source, most):
        """Play a board and a slow one side by side; return which numbers of wires turned behind a look."""
        board, slow = self.both(net)
        row, turns = [], set()
        self.same(board, slow, row)
        while len(row) < most and slow.moves():
            # Often all leaves see before anything else turns, so that the board looks.
            leaves = [move for move in slow.moves() if move[0] == "leaf"]
            move = source.choice(leaves if leaves and source.randrange(2) else slow.moves())
            looked = slow.looked and not slow.waiting
            slow.do(move)
            board.move(move)
            row.append(move)
            self.same(board, slow, row)
            if slow.looked and (move[0] == "leaf" or not looked):
                turns.add((len(slow.waiting), slow.wrong is None))
        return turns, slow.wrong

    def test_boards_of_nets_right_and_wrong(self):
        source = sample(1)
        turns, wrongs = set(), []
        for net in some_nets(120, 2) + some_nets(40, 3, 6):
            for most in (10, 40):
                found, wrong = self.play(net, source, most)
                turns |= found
                wrongs.append(wrong)
        self.assertLessEqual({(1, True), (2, True), (1, False), (2, False)}, turns)
        self.assertLess(20, len([wrong for wrong in wrongs if wrong not in (None, 0)]))
        self.assertLess(20, wrongs.count(0))

    def test_boards_with_any_trees(self):
        # Boards that went wrong are moved on, and their wires turn again and again.
        source = sample(4)
        trees = {n: some_trees(n, 60, 5, 5) for n in (1, 2, 3, 4, 5)}
        machines = [FOLLOWER, JOIN, BARRED[2][0], BARRED[3][0]]
        for _ in range(150):
            machine = source.choice(machines)
            wires = source.randrange(3)
            states = 1 + max(max(arc[0], arc[3]) for arc in machine.arcs)
            coding = ["".join(source.choice("01") for _ in range(wires)) for _ in range(states)]
            n = len(machine.inputs) + wires
            net = Net(machine, coding, [source.choice(trees[n]) for _ in range(len(machine.outputs) + wires)])
            self.play(net, source, 40)

    def test_a_board_without_wires_and_without_outputs(self):
        two = Machine(["a", "b"], [], [(0, ["a", "b"], [], 1), (1, ["b"], [], 2)])
        board = Board(Net(two, ["", "", ""], []))
        self.assertEqual(answers(board), [[("input", "a"), ("input", "b")], (0, ()), "00", "", True, [], None])
        board.move(("input", "b"))
        self.assertEqual(answers(board), [[("input", "a")], (0, ("b",)), "01", "", False, [("input", "b")], None])
        # The burst is whole, no leaf is late, no wire is to turn: the board rests at once.
        board.move(("input", "a"))
        self.assertEqual([board.standing(), board.signals(), board.is_resting()], [(1, ()), "11", True])
        board.move(("input", "b"))
        self.assertEqual([board.moves(), board.standing(), board.signals()], [[], (2, ()), "10"])
        self.assertEqual(board.done(), [("input", "b"), ("input", "a"), ("input", "b")])
        self.refuses(NotAMove, {}, board.move, ("input", "a"))

    def test_a_board_with_one_wire(self):
        board = Board(Net(JOIN, ["0", "1"], [GOOD, GOOD]))
        late = [("leaf", f, path) for f in (0, 1) for path in ((0, 0), (1, 0))]
        board.move(("input", "a"))
        self.assertEqual([board.moves(), board.standing()], [[("input", "b")] + late, (0, ("a",))])
        board.move(("input", "b"))
        # The standing shows the whole burst until the board rests.
        self.assertEqual(board.standing(), (0, ("a", "b")))
        late = [("leaf", f, path) for f in (0, 1) for path in ((0, 0), (0, 1), (1, 0), (2, 0))]
        self.assertEqual(board.moves(), late)
        for move in late[::-1]:
            self.assertIn(board.shown(), ("00", "01", "11"))
            board.move(move)
        self.assertEqual([board.moves(), board.shown(), board.standing()], [[("wire", 0)], "11", (0, ("a", "b"))])
        board.move(("wire", 0))
        self.assertEqual([board.signals(), board.standing()], ["111", (0, ("a", "b"))])
        self.assertEqual(board.moves(), [("leaf", f, (k, 1)) for f in (0, 1) for k in (1, 2)])
        for move in board.moves():
            self.says(False, board.is_resting())
            board.move(move)
        self.assertEqual(answers(board)[:5], [[("input", "a"), ("input", "b")], (1, ()), "111", "11", True])
        self.assertIsNone(board.wrong())

    def test_a_look_behind_which_two_wires_turn(self):
        machine = Machine(["a"], [], [(0, ["a"], [], 1)])
        board = Board(Net(machine, ["00", "11"], [X, X]))
        board.move(("input", "a"))
        board.move(("leaf", 1, ()))
        self.assertEqual([board.moves(), board.shown()], [[("leaf", 0, ())], "01"])
        board.move(("leaf", 0, ()))
        self.assertEqual(board.moves(), [("wire", 0), ("wire", 1)])
        board.move(("wire", 1))
        self.assertEqual([board.moves(), board.signals(), board.standing()], [[("wire", 0)], "101", (0, ("a",))])
        # No leaf sees the wires, so the move of the last one brings the look about, and the rest.
        board.move(("wire", 0))
        self.assertEqual(answers(board)[:5], [[], (1, ()), "111", "11", True])
        self.assertIsNone(board.wrong())

    def test_wires_that_turn_again(self):
        machine = Machine(["a"], [], [(0, ["a"], [], 1)])
        board = Board(Net(machine, ["0", "0"], [("and", (X, no(Y)))]))
        board.move(("input", "a"))
        board.move(("leaf", 0, (0,)))
        self.assertEqual([board.wrong(), board.moves()], [2, [("wire", 0)]])
        for k in range(1, 8):
            board.move(("wire", 0))
            self.assertEqual([board.signals(), board.moves()], ["1" + str(k % 2), [("leaf", 0, (1, 0))]])
            board.move(("leaf", 0, (1, 0)))
            self.assertEqual([board.shown(), board.moves()], [str((k + 1) % 2), [("wire", 0)]])
        self.assertEqual([board.wrong(), board.standing(), len(board.done())], [2, (0, ("a",)), 16])

    def test_inputs_that_choke(self):
        machine = Machine(["a", "b", "c"], ["z"], [(0, ["a", "b"], ["z"], 1), (0, ["c", "b"], [], 2)])
        net = Net(machine, ["", "", ""], [("and", (X, Y))])
        for first, moves in (("a", ["b"]), ("b", ["a", "c"]), ("c", ["b"])):
            board = Board(net)
            board.move(("input", first))
            self.assertEqual([move for move in board.moves() if move[0] == "input"], [("input", n) for n in moves])
        # An input is possible while leaves are late, but not while the burst is whole.
        board = Board(Net(FOLLOWER, ["", ""], [X]))
        board.move(("input", "a"))
        self.refuses(NotAMove, {}, board.move, ("input", "a"))
        self.assertEqual([board.done(), board.signals()], [[("input", "a")], "1"])

    def test_constants_are_no_leaves_that_see(self):
        board = Board(Net(FOLLOWER, ["", ""], [("or", (ZERO, ("and", (ONE, X))))]))
        board.move(("input", "a"))
        self.assertEqual(board.moves(), [("leaf", 0, (1, 1))])
        for path in ((0,), (1, 0), (1,), ()):
            self.refuses(NotAMove, {}, board.move, ("leaf", 0, path))

    def test_any_value_as_a_move(self):
        board = Board(Net(JOIN, ["0", "1"], [GOOD, GOOD]))
        wire = Board(Net(Machine(["a"], [], [(0, ["a"], [], 1)]), ["00", "11"], [X, X]))
        for move in (("input", "a"), ("leaf", 0, ()), ("leaf", 1, ())):
            wire.move(move)
        board.move(("input", "a"))
        for one in (board, wire):
            before = answers(one)
            things = anything() + ["input", ("input",), ("input", "b", "c"), ["input", "b"], ("input", "z"),
                                   ("leaf", 0), ("leaf", 0, [0, 0]), ("leaf", 0, (False, False)), ("leaf", False,
                                                                                                   (0, 0)),
                                   ("leaf", 0, (0,)), ("leaf", 0, (0, 0, 0)), ("leaf", 0, (0, 1)), ("leaf", 2, (0, 0)),
                                   ("leaf", -1, (0, 0)), ("leaf", -2, (0, 0)), ("leaf", 0, (0, -2)),
                                   ("leaf", 0, (0.0, 0)), ("leaf", 0.0, (0, 0)), ("leaf", 0, "00"), ("wire", True),
                                   ("wire", False), ("wire", 0.0), ("wire", 2), ("wire", -1), ["wire", 0],
                                   ("wire", "0"),
                                   ("wire", 0, ()), ("Wire", 0), ("leaf", 0, (0, 0), 0), ("leaf", None, None),
                                   (b"wire", 0)]
            for thing in anything(39):
                things += [("input", thing), ("wire", thing), ("leaf", thing, (0, 0)), ("leaf", 0, thing),
                           ("leaf", 0, (0, thing)), (thing, 0), (thing, "b"), (thing, 0, (0, 0))]
            for thing in things:
                if not any(thing == move and str(thing) == str(move) for move in one.moves()):
                    with self.subTest(thing=names(thing)):
                        self.refuses(NotAMove, {}, one.move, thing)
            self.assertEqual(answers(one), before)

    def test_the_answers_are_new_lists(self):
        board = Board(Net(JOIN, ["0", "1"], [GOOD, GOOD]))
        board.move(thing=("input", "a"))
        for question in (board.moves, board.done):
            self.is_new(question)
        self.assertEqual(board.done(), [("input", "a")])

    def test_twins(self):
        source = sample(6)
        for net in some_nets(40, 7):
            board = Board(net)
            for _ in range(source.randint(0, 12)):
                if board.moves():
                    board.move(source.choice(board.moves()))
            other = board.twin()
            self.assertIs(type(other), Board)
            self.assertEqual(answers(other), answers(board))
            # Later moves of one do not change the other, and a twin goes on as the board would have.
            before = answers(board)
            row = []
            while len(row) < 8 and other.moves():
                row.append(source.choice(other.moves()))
                other.move(row[-1])
            self.assertEqual(answers(board), before)
            third = other.twin()
            for move in row:
                board.move(move)
            self.assertEqual(answers(board), answers(other))
            self.assertEqual(answers(third), answers(other))


    def test_twins_in_the_middle_of_an_arc(self):
        # A line that showed its new sign ahead of the twin may not show the old one again behind it.
        net = Net(FOLLOWER, ["", ""], [("or", (X, ("and", (X, no(X)))))])
        board = Board(net)
        board.move(("input", "a"))
        board.move(("leaf", 0, (1, 0)))
        other = board.twin()
        for one in (board, other):
            self.assertEqual([one.shown(), one.wrong()], ["1", None])
            one.move(("leaf", 0, (1, 1, 0)))
            self.assertEqual([one.shown(), one.wrong()], ["0", 3])
        # A twin of a board that has looked, and one of a board that went wrong.
        machine = Machine(["a"], ["z"], [(0, ["a"], ["z"], 1)])
        board = Board(Net(machine, ["0", "1"], [("and", (X, no(Y))), X]))
        for move in (("input", "a"), ("leaf", 0, (0,)), ("leaf", 1, ()), ("wire", 0), ("leaf", 0, (1, 0))):
            other = board.twin()
            board.move(move)
            other.move(move)
            self.assertEqual(answers(other), answers(board))
        self.assertEqual([board.twin().wrong(), other.wrong()], [5, 5])


class GoingWrong(Case):
    def wrong(self, net, moves):
        board = Board(net)
        for move in moves:
            board.move(move)
        return board.wrong()

    def test_at_the_beginning(self):
        self.assertEqual(Board(Net(FOLLOWER, ["", ""], [no(X)])).wrong(), 0)
        self.assertEqual(Board(Net(FOLLOWER, ["", ""], [ONE])).wrong(), 0)
        self.assertEqual(Board(Net(JOIN, ["0", "1"], [GOOD, ONE])).wrong(), 0)
        self.assertIsNone(Board(Net(Machine(["a"], [], []), ["1"], [ONE])).wrong())
        self.assertEqual(Board(Net(Machine(["a"], [], []), ["1"], [ZERO])).wrong(), 0)
        # The first time counts, whatever comes later.
        self.assertEqual(self.wrong(Net(FOLLOWER, ["", ""], [no(X)]), [("input", "a"), ("leaf", 0, (0,))]), 0)

    def test_while_the_burst_is_not_whole(self):
        net = Net(JOIN, ["0", "1"], [("or", (X, Y)), GOOD])
        self.assertEqual(self.wrong(net, [("input", "a"), ("leaf", 0, (0,))]), 2)
        # The same sign is right when the burst is whole.
        self.assertIsNone(self.wrong(net, [("input", "a"), ("input", "b"), ("leaf", 0, (0,))]))

    def test_while_it_is_whole_and_the_board_has_not_looked(self):
        net = Net(FOLLOWER, ["", ""], [("or", (X, ("and", (X, no(X)))))])
        late = [("leaf", 0, path) for path in ((0,), (1, 0), (1, 1, 0))]
        # 0, 1 and 0 again; 0 and 1 alone.
        self.assertEqual(self.wrong(net, [("input", "a"), late[1], late[2]]), 3)
        self.assertIsNone(self.wrong(net, [("input", "a"), late[1], late[0], late[2]]))
        self.assertIsNone(self.wrong(net, [("input", "a"), late[2], late[1], late[0]]))
        # A line that is to show one sign only.
        still = Machine(["a"], ["z"], [(0, ["a"], [], 1)])
        net = Net(still, ["", ""], [("and", (X, no(X)))])
        self.assertEqual(self.wrong(net, [("input", "a"), ("leaf", 0, (0,)), ("leaf", 0, (1, 0))]), 2)
        self.assertIsNone(self.wrong(net, [("input", "a"), ("leaf", 0, (1, 0)), ("leaf", 0, (0,))]))

    def test_at_the_look_and_behind_it(self):
        # A tree that does not see the input: the look comes with it.
        self.assertEqual(self.wrong(Net(FOLLOWER, ["", ""], [ZERO]), [("input", "a")]), 1)
        net = Net(FOLLOWER, ["", ""], [("and", (X, no(X)))])
        self.assertEqual(self.wrong(net, [("input", "a"), ("leaf", 0, (1, 0)), ("leaf", 0, (0,))]), 3)
        # The line shows the new sign at the look, but not when the wire has turned.
        machine = Machine(["a"], ["z"], [(0, ["a"], ["z"], 1)])
        net = Net(machine, ["0", "1"], [("and", (X, no(Y))), X])
        row = [("input", "a"), ("leaf", 0, (0,)), ("leaf", 1, ()), ("wire", 0), ("leaf", 0, (1, 0))]
        self.assertEqual([self.wrong(net, row[:k]) for k in range(6)], [None] * 5 + [5])
        # A wire that should have turned and does not, and one that turns and should not.
        self.assertEqual(self.wrong(Net(machine, ["0", "1"], [X, ZERO]), [("input", "a"), ("leaf", 0, ())]), 2)
        self.assertEqual(self.wrong(Net(machine, ["0", "0"], [X, X]), row[:1] + [("leaf", 0, ()), ("leaf", 1, ())]), 3)

    def test_a_board_that_went_wrong_goes_on_by_what_it_shows(self):
        machine = Machine(["a"], [], [(0, ["a"], [], 1), (1, ["a"], [], 0)])
        board = Board(Net(machine, ["0", "1"], [ZERO]))
        board.move(("input", "a"))
        # It rests in the state 1, whose code is "1", with the wire at 0.
        self.assertEqual(answers(board), [[("input", "a")], (1, ()), "10", "0", True, [("input", "a")], 1])
        board.move(("input", "a"))
        self.assertEqual([board.standing(), board.signals(), board.wrong()], [(0, ()), "00", 1])


class Facts(Case):
    def nets(self):
        small = [net for net in some_nets(260, 8) if sum(len(leaves_in(tree)) for tree in net.trees) <= 9]
        source = sample(9)
        trees = {n: some_trees(n, 80, 10, 4) for n in (1, 2, 3)}
        still = Machine(["a"], ["z"], [(0, ["a"], [], 1), (1, ["a"], [], 0)])
        for machine, coding in ((FOLLOWER, ["", ""]), (FOLLOWER, ["0", "1"]), (JOIN, ["0", "1"]), (still, ["", ""]),
                                (JOIN, ["", ""]), (still, ["0", "1"]), (still, ["00", "11"])):
            n = len(machine.inputs) + len(coding[0])
            many = len(machine.outputs) + len(coding[0])
            right = [[X]] * many
            if has_book(machine, coding):
                right = [[tree_of(n, cover)] for cover in book_of(machine, coding)]
            for _ in range(60):
                small.append(Net(machine, coding, [source.choice(trees[n] + right[f] * 40) for f in range(many)]))
        return small

    def test_nets_are_judged_exactly(self):
        seen = {}
        for net in self.nets():
            wrong = can_go_wrong(net)
            if wrong is not None:
                found = judged(net)
                self.says(wrong, found is not None)
                seen[kind_of(found)] = seen.get(kind_of(found), 0) + 1
        for key in (None, "begin", ("value", 0), ("value", 1), ("flicker", 0), ("flicker", 1)):
            self.assertGreater(seen.get(key, 0), 2, key)

    def check_bad_row(self, net):
        row = bad_row(net)
        self.assertEqual(row is None, judged(net) is None)
        if row is not None:
            self.assertIs(type(row), list)
            board, slow = Board(net), Slow(net)
            for move in row:
                self.assertIn(move, slow.moves())
                self.assertIsNone(board.wrong())
                board.move(move)
                slow.do(move)
            self.assertEqual([board.wrong(), slow.wrong], [len(row)] * 2)
        return row

    def test_bad_row(self):
        seen = {}
        for net in some_nets(250, 11) + some_nets(60, 12, 6) + self.nets():
            row = self.check_bad_row(net)
            found = judged(net)
            seen[kind_of(found)] = seen.get(kind_of(found), 0) + 1
            if found is not None and found[0] == "begin":
                self.assertEqual(row, [])
        for key in (None, "begin", ("value", 0), ("value", 1), ("flicker", 0), ("flicker", 1)):
            self.assertGreater(seen.get(key, 0), 2, key)
        self.is_new(bad_row, Net(FOLLOWER, ["", ""], [ZERO]))
        self.assertIsNone(bad_row(net=Net(FOLLOWER, ["", ""], [X])))

    def test_bad_rows_of_trees_that_flicker_deep_inside(self):
        both, either = ("and", (X, no(X))), ("or", (X, no(X)))
        still = Machine(["a"], ["z"], [(0, ["a"], [], 1)])
        trees = [both, no(either), no(no(both)), ("or", (both, both)), ("and", (either, both)),
                 ("or", (both, ("and", (ONE, both)))), ("or", (ZERO, no(("or", (either, both))))),
                 ("and", (X, ("not", ("and", (X, either))))), ("or", (("and", (X, no(X), X, no(X))), ZERO))]
        for tree in trees:
            net = Net(still, ["", ""], [tree])
            self.assertEqual(judged(net), ("flicker", 0, 0, 0))
            self.check_bad_row(net)
        wide = ("or", (X,) + (both,) * 100 + (X,) * 39)
        self.check_bad_row(Net(FOLLOWER, ["", ""], [wide]))
        deep = no(no(no(no(X))))
        self.check_bad_row(Net(FOLLOWER, ["", ""], [("and", (deep, ("or", (deep, no(X)))))]))

    def test_random_trees_flicker_on_boards_exactly_as_by_their_gates(self):
        # Gates with delays of their own add nothing.
        source = sample(13)
        many = 0
        for tree in some_trees(2, 400, 14, 6):
            start, end = source.choice([("00", "11"), ("00", "01")])
            machine = Machine(["a", "b"], ["z"], [(0, ["a", "b"] if end == "11" else ["b"], [], 1)])
            net = Net(machine, ["", ""], [tree])
            found = slow_judged(net)
            if found is None or found[0] == "flicker":
                self.says(found is not None, can_go_wrong(net))
                self.check_bad_row(net)
                many += found is not None
        self.assertGreater(many, 10)

    def test_boards_of_right_nets_come_to_rest(self):
        source = sample(15)
        for net in some_nets(120, 16, 4, 0) + some_nets(40, 17, 6, 0):
            most = 2 * sum(len(leaves_in(tree)) for tree in net.trees) + len(net.machine.inputs) + len(net.coding[0])
            board, since = Board(net), 0
            for _ in range(150):
                if not board.moves():
                    break
                board.move(source.choice(board.moves()))
                since += 1
                self.assertLessEqual(since, most)
                if board.is_resting():
                    since = 0
                    outs, code = entry_signs(net.machine)[board.standing()[0]][1], net.coding[board.standing()[0]]
                    self.assertEqual(board.shown(), outs + code)
                    self.assertEqual(board.signals(), entry_signs(net.machine)[board.standing()[0]][0] + code)
            self.assertIsNone(board.wrong())
            # A board stops only where no burst is waited for.
            if not board.moves():
                self.says(True, board.is_resting())

    def test_large_nets(self):
        # Wide trees: all leaves of all lines see twice.
        machine = Machine(["a", "b", "c"], ["z"], [(0, ["a", "b", "c"], ["z"], 1), (1, ["a", "b", "c"], ["z"], 0)])
        part = ("and", (X, Y, W))
        net = Net(machine, ["", ""], [("or", (part,) * 80)])
        self.assertEqual(judged(net), ("value", 1, 0, 0, "001"))
        self.check_bad_row(net)
        tree = ("or", (X,) * 240)
        net = Net(FOLLOWER, ["", ""], [tree])
        self.assertIsNone(bad_row(net))
        board = Board(net)
        for _ in range(2):
            board.move(("input", "a"))
            for move in board.moves()[::-1]:
                board.move(move)
        self.assertEqual([board.wrong(), len(board.done()), board.is_resting()], [None, 482, True])

    def test_programs_machines_and_boards(self):
        source = sample(18)
        many = 0
        for program in some_programs(400, 19, 6):
            try:
                machine = machine_of(program, ["a", "b"], ["y", "z"])
                net = made(machine) if fault(machine) is None else None
            except Exception as error:
                self.assertIn(type(error).__name__, ("LimitExceeded", "NothingLeft"))
                continue
            if net is not None:
                many += self.follow_on_a_board(program, machine, net, source)
        self.assertGreater(many, 200)

    def follow_on_a_board(self, program, machine, net, source):
        """Play the bursts that a program waits for; the lines show what told tells whenever the board rests."""
        board, given, rest, outs, rests = Board(net), [], (program,), {"y": 0, "z": 0}, 0
        while len(given) < 10 and openings(rest):
            burst, _, rest = source.choice(openings(rest))
            for name in source.sample(burst, len(burst)):
                given.append(name)
                while source.randrange(2) and board.moves()[0][0] == "leaf":
                    board.move(board.moves()[0])
                board.move(("input", name))
            while not board.is_resting():
                board.move(source.choice(board.moves()))
            flips = told(program, given)
            for name in itertools.chain(*flips[len(given) - len(burst):]):
                outs[name] ^= 1
            self.assertEqual(board.shown()[:2], f"{outs['y']}{outs['z']}")
            self.assertEqual([set(row) for row in flips], [set(row) for row in follow(machine, given)])
            rests += 1
        self.assertIsNone(board.wrong())
        return rests


if __name__ == "__main__":
    unittest.main()
