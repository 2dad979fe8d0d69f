"""burstshop.desk: promises [230] to [233], and [2] to [4] there."""

import copy
import inspect
import unittest

from burstshop import desk as module
from burstshop.books import book_of
from burstshop.desk import Desk
from burstshop.errors import (Clash, InvalidCoding, InvalidNumber, InvalidRule, InvalidTree, LimitExceeded, NothingLeft,
                              ShopError, Unsound)
from burstshop.machines import Machine
from burstshop.nets import Net, judged
from burstshop.rules import broken_by, rewritten
from burstshop.trees import is_tree, tree_of
from tests.circuits import (BARRED, FOLLOWER, JOIN, UNSOUND, a_coding, random_coding, right_circuits, slow_judged,
                            some_codings, wrong_coding)
from tests.helper import (Case, all_nodes, anything, first_wrong, is_int, leaves_in, names, sample, some_machines,
                          some_trees, wrong_trees)

X, Y, W, ZERO, ONE = ("in", 0), ("in", 1), ("in", 2), ("zero",), ("one",)
TWICE = (X, ("not", ("not", X)))
TURN = (("or", (X, Y, W)), ("or", (Y, W, X)))
RULES = [TWICE, TURN, (("and", (X, Y)), ("and", (Y, X))), (("not", ("not", X)), X), (X, ZERO),
         (("or", (X, Y)), ("or", (X, ("and", (("not", X), Y))))), (X, ("or", (X, ("and", (X, ("not", X))))))]
METHODS = {"code": ["coding"], "build": [], "rewrite": ["function", "path", "rule"], "net": [], "judged": [],
           "is_right": [], "undo": [], "redo": [], "twin": [], "attempt": ["deeds"], "trial": ["deeds"]}


def state_of(desk):
    """What all questions tell of a desk."""
    many = len(desk.machine.outputs) + (len(desk.coding[0]) if desk.coding is not None else 0)
    trees = [desk[k] for k in range(many)] if many and 0 in desk else None
    try:
        found = [desk.net() == desk.net(), desk.judged()]
    except NothingLeft as error:
        found = error.word
    return [desk.coding, trees, len(desk), desk.is_right(), found]


def history_of(desk):
    """The states that undoing and doing again lead to, from the present one back and on; the desk ends as it was."""
    rows = [state_of(desk)]
    many = 0
    try:
        while True:
            desk.undo()
            many += 1
            rows.append(state_of(desk))
    except NothingLeft as error:
        assert error.word == "undo"
    for _ in range(many):
        desk.redo()
    rows.append("now")
    many = 0
    try:
        while True:
            desk.redo()
            many += 1
            rows.append(state_of(desk))
    except NothingLeft as error:
        assert error.word == "redo"
    for _ in range(many):
        desk.undo()
    assert state_of(desk) == rows[0]
    return rows


class Slow:
    """A desk by the words of [230] to [232]: a list of all states and the place of the present one."""

    def __init__(self, machine):
        self.machine, self.states, self.at = machine, [(None, None)], 0

    def do(self, deed):
        """Do a deed or raise its error."""
        coding, trees = self.states[self.at]
        word = deed[0]
        if word in ("undo", "redo"):
            after = self.at + (1 if word == "redo" else -1)
            if after not in range(len(self.states)):
                raise NothingLeft(word)
            self.at = after
        elif word == "attempt":
            kept = (list(self.states), self.at)
            try:
                for inner in deed[1]:
                    self.do(inner)
            except ShopError:
                self.states, self.at = kept
                raise
        else:
            self.states = self.states[:self.at + 1] + [self.changed(word, deed[1:], coding, trees)]
            self.at += 1

    def changed(self, word, rest, coding, trees):
        if word == "code":
            if wrong_coding(self.machine, rest[0]) is not None:
                raise InvalidCoding(wrong_coding(self.machine, rest[0]))
            return (tuple(rest[0]), None)
        if word == "build":
            if coding is None:
                raise NothingLeft("coding")
            n = len(self.machine.inputs) + len(coding[0])
            return (coding, [tree_of(n, cover) for cover in book_of(self.machine, coding)])
        many = len(self.machine.outputs) + (len(coding[0]) if coding else 0)
        if not is_int(rest[0]) or rest[0] not in range(many):
            raise InvalidNumber()
        if trees is None:
            raise NothingLeft("trees")
        tree = rest[1] if word == "set" else rewritten(trees[rest[0]], *rest[1:])
        if first_wrong(tree, len(self.machine.inputs) + len(coding[0])) is not None:
            raise InvalidTree(first_wrong(tree, len(self.machine.inputs) + len(coding[0])))
        return (coding, trees[:rest[0]] + [tree] + trees[rest[0] + 1:])

    def state(self):
        coding, trees = self.states[self.at]
        if trees is None:
            return [coding, None, 0, False, "trees"]
        found = slow_judged(Net(self.machine, coding, trees))
        many = sum(len(leaves_in(tree)) for tree in trees)
        return [coding, trees or None, many, found is None, [True, found]]

    def history(self):
        now, rows = self.at, [self.state()]
        for self.at in range(now - 1, -1, -1):
            rows.append(self.state())
        rows.append("now")
        for self.at in range(now + 1, len(self.states)):
            rows.append(self.state())
        self.at = now
        return rows


def do(desk, deed):
    """Do a deed by the method that it names."""
    if deed[0] == "set":
        desk[deed[1]] = deed[2]
        return None
    return getattr(desk, deed[0])(*deed[1:])


def error_of(function, *args):
    """The class and the attributes of the error that a call raises, or None."""
    try:
        function(*args)
    except ShopError as error:
        return type(error), vars(error)
    return None


def random_deed(machine, source, desk, deep=0):
    """A deed by chance, often one that can be done."""
    coding = desk.states[desk.at][0]
    many = len(machine.outputs) + (len(coding[0]) if coding else 0)
    function = source.randrange(many) if many and source.randrange(12) else source.choice([-1, many, True, None])
    trees = desk.states[desk.at][1]
    kind = source.choice(["code", "build", "redo", "attempt"] + ["set", "undo"] * 2 + ["rewrite"] * 3)
    if kind == "code":
        good = a_coding(machine, source)
        if good is None or source.randrange(4) == 0:
            return ("code", source.choice([None, [], random_coding(machine, source, source.randrange(3)), ["0"] * 3]))
        return ("code", good)
    if kind == "set":
        n = len(machine.inputs) + (len(coding[0]) if coding else 0)
        return ("set", function, source.choice(some_trees(min(5, n + source.choice([0, 0, 0, 1])), 30, 2, 8) + [None]))
    if kind == "rewrite":
        path = ()
        if trees and is_int(function) and function in range(many):
            path = source.choice([path for path, _ in all_nodes(trees[function])] + [(0, 0, 7)])
        return ("rewrite", function, path, source.choice(RULES + [None, (X, Y)]))
    if kind == "attempt":
        deeds = [random_deed(machine, source, desk, deep + 1) for _ in range(source.randint(0, 3))] if deep < 3 else []
        return ("attempt", source.choice([list, tuple])(deeds))
    return (kind,)


class Interface(Case):
    def test_the_interface(self):
        self.stands_in(module, ["Desk"])
        for name in ("__init__", "__len__", "__getitem__", "__setitem__", "__contains__"):
            self.assertIn(name, vars(Desk))
        for name, arguments in METHODS.items():
            self.assertEqual(list(inspect.signature(vars(Desk)[name]).parameters), ["self"] + arguments)
        self.assertEqual(list(inspect.signature(Desk).parameters), ["machine"])

    def test_the_example_of_the_document(self):
        desk = Desk(FOLLOWER)
        self.assertIsNone(desk.code(["", ""]))
        self.assertIsNone(desk.build())
        self.assertIsNone(desk.rewrite(0, (), (("in", 0), ("not", ("not", ("in", 0))))))
        self.assertEqual([desk[0], desk.is_right(), len(desk), desk.coding],
                         [("not", ("not", ("in", 0))), True, 1, ("", "")])


class Desks(Case):
    def test_a_new_desk(self):
        desk = Desk(machine=JOIN)
        self.says(True, desk.machine == JOIN)
        self.assertEqual([desk.coding, len(desk)], [None, 0])
        self.says(False, desk.is_right())
        self.says(False, 0 in desk)
        for function in (desk.net, desk.judged):
            self.refuses(NothingLeft, {"word": "trees"}, function)
        self.refuses(NothingLeft, {"word": "coding"}, desk.build)
        self.refuses(NothingLeft, {"word": "undo"}, desk.undo)
        self.refuses(NothingLeft, {"word": "redo"}, desk.redo)
        # Without a coding there are the functions of the outputs, without trees.
        self.refuses(NothingLeft, {"word": "trees"}, desk.__getitem__, 0)
        self.refuses(InvalidNumber, {}, desk.__getitem__, 1)
        self.refuses(NothingLeft, {"word": "trees"}, desk.__setitem__, 0, None)
        self.refuses(InvalidNumber, {}, desk.__setitem__, 1, None)
        self.refuses(NothingLeft, {"word": "trees"}, desk.rewrite, 0, (), None)
        self.refuses(InvalidNumber, {}, desk.rewrite, 1, (), None)
        for machine, told in UNSOUND:
            self.refuses(Unsound, told, Desk, machine)

    def test_code(self):
        desk = Desk(JOIN)
        coding = ["0", "1"]
        desk.code(coding)
        coding[0] = "1"
        self.assertEqual(desk.coding, ("0", "1"))
        self.assertIs(type(desk.coding), tuple)
        desk.build()
        self.says(True, 1 in desk)
        # The trees go away, also if the coding is the same.
        desk.code(coding=("0", "1"))
        self.assertEqual([desk.coding, len(desk), 0 in desk], [("0", "1"), 0, False])
        # The functions are those of the new coding.
        self.refuses(NothingLeft, {"word": "trees"}, desk.__getitem__, 1)
        self.refuses(InvalidNumber, {}, desk.__getitem__, 2)
        desk.code(["", ""])
        self.refuses(InvalidNumber, {}, desk.__getitem__, 1)
        for thing in anything() + [["0"], ["0", ""], ["000", "000"], ["0", "2"], [None, "0"]]:
            if wrong_coding(JOIN, thing) is not None:
                with self.subTest(thing=names(thing)):
                    self.refuses(InvalidCoding, {"at": wrong_coding(JOIN, thing)}, desk.code, thing)
                    self.assertEqual(desk.coding, ("", ""))

    def test_build(self):
        for machine, coding, trees in right_circuits(60, 1) + right_circuits(20, 2, 6):
            desk = Desk(machine)
            desk.code(coding)
            desk.build()
            self.assertEqual([desk[k] for k in range(len(trees))], trees)
            self.assertEqual(len(desk), sum(len(leaves_in(tree)) for tree in trees))
            self.says(True, desk.net() == Net(machine, coding, trees))
            self.assertEqual(desk.judged(), judged(desk.net()))
            # The fact of [233].
            if any(arc[0] == 0 for arc in machine.arcs) or "1" not in coding[0]:
                self.says(True, desk.is_right())
        self.refuses_to_build(JOIN, ["", ""], Clash, {"arc": 1, "function": 0})
        for machine, coding in BARRED:
            self.refuses_to_build(machine, coding, NothingLeft, {"word": "cover"})

    def refuses_to_build(self, machine, coding, error, told):
        desk = Desk(machine)
        desk.code(coding)
        before = history_of(desk)
        self.refuses(error, told, desk.build)
        self.assertEqual(history_of(desk), before)

    def test_a_desk_without_functions(self):
        desk = Desk(Machine(["a"], [], [(0, ["a"], [], 1), (1, ["a"], [], 0)]))
        desk.code(["", ""])
        self.refuses(NothingLeft, {"word": "trees"}, desk.net)
        self.says(False, desk.is_right())
        desk.build()
        # An empty tuple counts as trees.
        self.assertEqual([desk.net().trees, len(desk), desk.judged()], [(), 0, None])
        self.says(True, desk.is_right())
        self.says(False, 0 in desk)
        self.refuses(InvalidNumber, {}, desk.__getitem__, 0)
        self.assertIsNone(desk.trial([]))
        desk.code(["", ""])
        self.says(False, desk.is_right())

    def test_a_code_with_a_one_and_no_arc(self):
        desk = Desk(Machine(["a"], [], []))
        desk.code(["1"])
        desk.build()
        self.assertEqual(desk[0], ZERO)
        self.assertEqual(desk.judged(), ("begin", 0))
        self.says(False, desk.is_right())
        desk[0] = ONE
        self.says(True, desk.is_right())

    def test_get_and_set(self):
        desk = Desk(JOIN)
        desk.code(["0", "1"])
        desk.build()
        old = desk[1]
        desk[1] = W
        self.assertEqual([desk[0], desk[1], len(desk)], [old, W, 7])
        self.assertEqual(desk.judged(), slow_judged(Net(JOIN, ["0", "1"], [old, W])))
        self.says(False, desk.is_right())
        desk[0] = ("or", (X,) * 240)
        self.assertEqual(len(desk), 241)
        for tree, path in wrong_trees(3):
            self.refuses(InvalidTree, {"path": path}, desk.__setitem__, 0, tree)
        for thing in anything():
            with self.subTest(thing=names(thing)):
                right = is_int(thing) and thing in (0, 1)
                self.says(right, thing in desk)
                if not right:
                    self.refuses(InvalidNumber, {}, desk.__getitem__, thing)
                    self.refuses(InvalidNumber, {}, desk.__setitem__, thing, W)
                    self.refuses(InvalidNumber, {}, desk.__setitem__, thing, None)
                    self.refuses(InvalidNumber, {}, desk.rewrite, thing, (), None)
                if not is_tree(thing, 3):
                    self.refuses(InvalidTree, {"path": ()}, desk.__setitem__, 0, thing)
        for number in (-1, 2, True, False, 0.0, "0"):
            self.says(False, number in desk)
        self.assertEqual([len(desk), desk[1]], [241, W])

    def test_rewrite(self):
        desk = Desk(JOIN)
        desk.code(["0", "1"])
        desk.build()
        before = desk[0]
        desk.rewrite(rule=TURN, path=(), function=1)
        self.assertEqual([desk[0], desk[1]], [before, rewritten(before, (), TURN)])
        desk.rewrite(1, (0, 1), TWICE)
        self.assertEqual(desk[1], rewritten(rewritten(before, (), TURN), (0, 1), TWICE))
        now = history_of(desk)
        for rule, which, path in ((None, -1, ()), ((X, Y), 2, ()), ((X, None), 1, ())):
            for place in ((), (9,), (0, 0, 0)):
                self.refuses(InvalidRule, {"which": which, "path": path}, desk.rewrite, 0, place, rule)
        for thing in anything():
            if not isinstance(thing, tuple) or len(thing) != 2:
                self.refuses(InvalidRule, {"which": -1, "path": ()}, desk.rewrite, 0, (), thing)
        for place in ((3,), (0, 2), (0, 0, 0), (0,) * 8):
            self.refuses(NothingLeft, {"word": "node"}, desk.rewrite, 0, place, TURN)
        for place in anything() + [[], [0], (-1,), (-3,), (True,), (False,), (0.0,), (0, None), "", {}, (0, -1)]:
            # The places among them that lead to a node; a path as a text tells 0 from False and 0.0.
            if not isinstance(place, tuple) or str(place) not in ("()", "(0,)", "(0, 0)"):
                with self.subTest(place=names(place)):
                    self.refuses(NothingLeft, {"word": "node"}, desk.rewrite, 0, place, TURN)
        self.refuses(NothingLeft, {"word": "rule"}, desk.rewrite, 0, (0,), TURN)
        self.refuses(LimitExceeded, {"limit": 240}, desk.rewrite, 0, (), (X, ("or", (X,) * 41)))
        deep = X
        for _ in range(6):
            deep = ("not", deep)
        self.refuses(LimitExceeded, {"limit": 8}, desk.rewrite, 0, (), (X, deep))
        self.assertEqual(history_of(desk), now)
        desk.code(["0", "1"])
        self.refuses(NothingLeft, {"word": "trees"}, desk.rewrite, 0, (), None)

    def test_rewriting_by_a_rule_that_keeps(self):
        source = sample(3)
        many = 0
        for machine, coding, trees in right_circuits(40, 4):
            desk = Desk(machine)
            desk.code(coding)
            desk.build()
            if trees and desk.is_right():
                for _ in range(25):
                    function = source.randrange(len(trees))
                    path = source.choice([path for path, _ in all_nodes(desk[function])])
                    rule = source.choice([rule for rule in RULES if broken_by(rule) is None])
                    if error_of(desk.rewrite, function, path, rule) is None:
                        many += 1
                        self.says(True, desk.is_right())
        self.assertGreater(many, 200)


class History(Case):
    def test_undo_and_redo_behind_each_kind_of_deed(self):
        desk = Desk(JOIN)
        deeds = [("code", ["0", "1"]), ("build",), ("set", 0, W), ("rewrite", 1, (), TURN), ("code", ["00", "01"]),
                 ("build",), ("attempt", [("set", 2, X), ("rewrite", 0, (), TURN)])]
        states = [state_of(desk)]
        for deed in deeds[:-1]:
            self.assertIsNone(do(desk, deed))
            states.append(state_of(desk))
        desk.attempt(deeds[-1][1])
        # Each deed of an attempt stands in the history on its own.
        last = state_of(desk)
        self.assertIsNone(desk.undo())
        self.assertEqual([desk[2], desk[0]], [X, states[-1][1][0]])
        desk.undo()
        for state in states[::-1][1:]:
            desk.undo()
            self.assertEqual(state_of(desk), state)
        self.refuses(NothingLeft, {"word": "undo"}, desk.undo)
        for state in states[1:]:
            self.assertIsNone(desk.redo())
            self.assertEqual(state_of(desk), state)
        desk.redo()
        desk.redo()
        self.assertEqual(state_of(desk), last)
        self.refuses(NothingLeft, {"word": "redo"}, desk.redo)

    def test_a_new_deed_takes_away_the_undone_ones(self):
        for deed in (("code", ["0", "1"]), ("build",), ("set", 1, W), ("rewrite", 0, (), TURN)):
            desk = Desk(JOIN)
            desk.code(["0", "1"])
            desk.build()
            desk[0] = desk[0]
            desk.undo()
            do(desk, deed)
            self.refuses(NothingLeft, {"word": "redo"}, desk.redo)
        # A deed that raises an error, undoing and doing again do not.
        desk = Desk(JOIN)
        desk.code(["0", "1"])
        desk.build()
        desk[0] = W
        desk[1] = X
        desk.undo()
        desk.undo()
        late = ("attempt", [("set", 0, X), ("undo",), ("set", 5, X)])
        for deed in (("code", ["0"]), ("set", 0, None), ("set", 2, X), ("rewrite", 0, (), None), late):
            self.assertIsNotNone(error_of(do, desk, deed))
        self.assertIsNone(desk.trial([("set", 0, desk[0])]))
        desk.redo()
        desk.redo()
        self.assertEqual([desk[0], desk[1]], [W, X])

    def test_desks_by_chance(self):
        source = sample(5)
        seen = {}
        machines = [machine for machine in some_machines(60, 6) if machine.arcs] + [JOIN, FOLLOWER, BARRED[0][0]]
        for k in range(120):
            machine = source.choice(machines)
            desk, slow = Desk(machine), Slow(machine)
            for _ in range(25):
                deed = random_deed(machine, source, slow)
                told = error_of(slow.do, deed)
                self.assertEqual(error_of(do, desk, deed), told)
                self.assertEqual(state_of(desk), slow.state())
                seen[deed[0], told is None] = seen.get((deed[0], told is None), 0) + 1
            self.assertEqual(history_of(desk), slow.history())
        for word in ("code", "set", "rewrite", "undo", "redo", "attempt"):
            self.assertGreater(min(seen[word, True], seen[word, False]), 10, word)
        self.assertGreater(seen["build", True], 20)

    def test_two_desks_and_twins(self):
        source = sample(7)
        for k in range(40):
            machine = source.choice([JOIN, FOLLOWER])
            desk, other, slow = Desk(machine), Desk(machine), Slow(machine)
            for _ in range(12):
                deed = random_deed(machine, source, slow)
                error_of(slow.do, deed)
                error_of(do, desk, deed)
            self.assertEqual(state_of(other), state_of(Desk(machine)))
            before = history_of(desk)
            twin = desk.twin()
            self.assertIs(type(twin), Desk)
            # The same coding and trees, an empty history.
            self.assertEqual(history_of(twin), [state_of(desk), "now"])
            self.says(True, twin.machine == machine)
            for _ in range(6):
                error_of(do, twin, random_deed(machine, source, slow))
            self.assertEqual(history_of(desk), before)
            now = history_of(twin)
            for _ in range(6):
                error_of(do, desk, random_deed(machine, source, slow))
            self.assertEqual(history_of(twin), now)


class Attempts(Case):
    def built(self):
        desk = Desk(JOIN)
        desk.code(["0", "1"])
        desk.build()
        return desk

    def test_attempt(self):
        desk = Desk(JOIN)
        self.assertIsNone(desk.attempt([]))
        self.assertIsNone(desk.attempt(deeds=()))
        self.refuses(NothingLeft, {"word": "undo"}, desk.undo)
        self.assertIsNone(desk.attempt((("code", ["0", "1"]), ("build",), ("set", 0, W), ("undo",))))
        self.says(True, desk.is_right())
        desk.redo()
        self.assertEqual(desk[0], W)
        # Deeds from before the attempt are undone and done again, too.
        desk.attempt([("undo",), ("undo",), ("redo",)])
        self.says(True, desk.is_right())
        desk.attempt([("undo",)] * 2)
        self.assertEqual(desk.coding, None)
        desk.attempt([("redo",)] * 3)
        self.assertEqual(desk[0], W)
        desk.attempt([("set", 0, X)] * 40)
        desk.attempt([("undo",)] * 40)
        self.assertEqual(desk[0], W)

    def test_all_or_none(self):
        for bad, error, told in (
                (("code", ["0"]), InvalidCoding, {"at": -1}), (("set", 2, X), InvalidNumber, {}),
                (("set", 0, ("in", 3)), InvalidTree, {"path": ()}), (("redo",), NothingLeft, {"word": "redo"}),
                (("rewrite", 0, (9,), TURN), NothingLeft, {"word": "node"}),
                (("attempt", [("set", 0, X), ("attempt", [("redo",)])]), NothingLeft, {"word": "redo"}),
                (("rewrite", 0, (), (X, Y)), InvalidRule, {"which": 2, "path": ()})):
            desk = self.built()
            desk[1] = X
            desk.undo()
            before = history_of(desk)
            deeds = [("set", 0, W), ("rewrite", 1, (), TURN), ("undo",), ("set", 1, X), bad, ("code", ["", ""])]
            self.refuses(error, told, desk.attempt, deeds)
            self.assertEqual(history_of(desk), before)
            self.refuses(error, told, desk.trial, deeds)
            self.assertEqual(history_of(desk), before)
        desk = self.built()
        before = history_of(desk)
        self.refuses(NothingLeft, {"word": "undo"}, desk.attempt, [("undo",)] * 3)
        self.refuses(Clash, {"arc": 1, "function": 0}, desk.attempt, [("code", ["", ""]), ("build",)])
        self.refuses(NothingLeft, {"word": "trees"}, desk.attempt, [("code", ["0", "1"]), ("set", 0, X)])
        self.assertEqual(history_of(desk), before)

    def test_attempts_within_attempts(self):
        desk = self.built()
        deeds = [("set", 0, X)]
        for tree in (Y, W, ZERO):
            deeds = [("set", 1, tree), ("attempt", tuple(deeds)), ("set", 1, tree)]
        desk.attempt(deeds)
        self.assertEqual([desk[0], desk[1]], [X, ZERO])
        for tree in (W, Y, Y, Y, W, ZERO, None):
            desk.undo()
            if tree is not None:
                self.assertEqual(desk[1], tree)
        self.says(True, desk.is_right())

    def test_trial(self):
        desk = self.built()
        desk[0] = W
        desk.undo()
        before = history_of(desk)
        told = [
            ([], None), ([("set", 0, ONE)], ("begin", 0)), ([("set", 1, ZERO)], ("value", 0, 0, 1, "110")),
            ([("redo",)], ("value", 0, 0, 0, "110")), ([("code", ["", ""])], None), ([("undo",), ("undo",)], None),
            ([("set", 0, ONE), ("undo",)], None), ([("attempt", [("set", 0, ONE)])], ("begin", 0)),
            ([("rewrite", 0, (), TURN)], None),
        ]
        for deeds, found in told:
            kept = copy.deepcopy(deeds)
            self.assertEqual(desk.trial(deeds), found)
            self.assertEqual(desk.trial(deeds=tuple(deeds)), found)
            self.assertEqual(deeds, kept)
            self.assertEqual(history_of(desk), before)
        self.assertIsNone(Desk(JOIN).trial([("code", ["0", "1"])]))
        self.assertIsNone(Desk(JOIN).trial([("code", ["0", "1"]), ("build",)]))

    def test_trials_by_chance(self):
        source = sample(8)
        many = {True: 0, False: 0}
        for k in range(150):
            machine = source.choice([JOIN, FOLLOWER, BARRED[0][0]])
            desk, slow = Desk(machine), Slow(machine)
            for _ in range(source.randint(0, 8)):
                deed = random_deed(machine, source, slow)
                error_of(slow.do, deed)
                error_of(do, desk, deed)
            before = history_of(desk)
            deeds = [random_deed(machine, source, slow) for _ in range(source.randint(0, 4))]
            told = error_of(slow.do, ("attempt", deeds))
            if told is None:
                found = slow.state()[4]
                self.assertEqual(desk.trial(deeds), None if found == "trees" else found[1])
            else:
                self.assertEqual(error_of(desk.trial, deeds), told)
            self.assertEqual(history_of(desk), before)
            many[told is None] += 1
        self.assertGreater(min(many.values()), 30)

    def test_a_desk_keeps_no_list(self):
        desk = self.built()
        coding, deeds = ["0", "1"], [("set", 0, X)]
        desk.code(coding)
        coding.clear()
        self.assertEqual(desk.coding, ("0", "1"))
        desk.build()
        desk.attempt(deeds)
        deeds.append(("set", 0, Y))
        desk.undo()
        desk.redo()
        self.assertEqual(desk[0], X)


class Facts(Case):
    def test_a_desk_is_right_behind_code_and_build(self):
        source = sample(9)
        seen = {True: 0, False: 0}
        for machine in some_machines(150, 10, 6):
            for coding in some_codings(machine, source):
                desk = Desk(machine)
                if error_of(desk.attempt, [("code", coding), ("build",)]) is None:
                    moving = any(arc[0] == 0 for arc in machine.arcs)
                    if moving or "1" not in coding[0]:
                        self.says(True, desk.is_right())
                        self.assertIsNone(slow_judged(desk.net()))
                    seen[moving] += 1
        self.assertGreater(min(seen.values()), 20)


if __name__ == "__main__":
    unittest.main()
