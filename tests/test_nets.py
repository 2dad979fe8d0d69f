"""burstshop.nets: promises [150], [151] and [156], and [2] to [4] there."""

import copy
import inspect
import unittest

from burstshop import nets as module
from burstshop.books import book_of, codings, fewest_wires
from burstshop.errors import (InvalidCoding, InvalidRule, InvalidTrees, LimitExceeded, NothingLeft, Unsound)
from burstshop.machines import Machine
from burstshop.nets import Net, judged, made
from burstshop.rules import leanest
from burstshop.trees import tree_of
from burstshop.treetexts import write_tree
from tests.circuits import (BARRED, FOLLOWER, JOIN, UNSOUND, WITHOUT_CODING, codes_needed, entry_signs, kind_of,
                            right_circuits, slow_judged, some_nets, wrong_coding)
from tests.helper import (Case, anything, first_wrong, names, nest, reached, some_machines, some_trees,
                          tree_value, wrong_trees)

X, Y, ZERO, ONE = ("in", 0), ("in", 1), ("zero",), ("one",)
A, B, C = X, Y, ("in", 2)
# Rules that keep, and some that break.
SHORTER = [(("or", (("and", pair), ("and", other))), ("and", (A, ("or", (B, C)))))
           for pair in ((A, B), (B, A)) for other in ((A, C), (C, A))]
SHORTER += [(("or", (A, A)), A), (("not", ("not", A)), A), (("or", (("and", (A, B)), A)), A),
            (("or", (("and", (A, B)), ("and", (C, B)), ("and", (C, A)))),
             ("or", (("and", (B, ("or", (A, C)))), ("and", (C, A)))))]
TURNING = [(("or", (A, B, C)), ("or", (B, C, A))), (("and", (A, B)), ("and", (B, A))), (("or", (A, B)), ("or", (B, A)))]
FIVE = Machine(["a", "b"], [], [(0, ["a"], [], 1), (1, ["a"], [], 2), (2, ["b"], [], 3), (3, ["a"], [], 4)])


class Nets(Case):
    def test_the_interface(self):
        self.stands_in(module, ["Net", "judged", "made"])
        for name in ("__init__", "__eq__"):
            self.assertIn(name, vars(Net))
        self.assertEqual(list(inspect.signature(Net).parameters), ["machine", "coding", "trees"])
        self.assertEqual(list(inspect.signature(judged).parameters), ["net"])
        self.assertEqual(str(inspect.signature(made)), "(machine, *, rules=())")

    def test_a_net(self):
        coding, trees = ["0", "1"], [("or", (X, ("in", 2))), ONE]
        net = Net(JOIN, coding, trees)
        self.says(True, net.machine == JOIN)
        self.assertEqual([net.coding, net.trees], [("0", "1"), (("or", (X, ("in", 2))), ONE)])
        coding[0] = "1"
        trees.clear()
        self.assertEqual([net.coding, net.trees], [("0", "1"), (("or", (X, ("in", 2))), ONE)])
        named = Net(trees=(ZERO,), coding=("", ""), machine=FOLLOWER)
        self.assertEqual([named.coding, named.trees], [("", ""), (ZERO,)])
        # A clash is no error, nor is a coding that has no book.
        self.assertEqual(Net(JOIN, ["", ""], [X]).trees, (X,))
        for machine, codes in BARRED:
            many = len(machine.outputs) + len(codes[0])
            self.assertEqual(Net(machine, codes, [ZERO] * many).coding, tuple(codes))
        # Without functions, and with five variables and five functions.
        self.assertEqual(Net(Machine(["a"], [], []), [""], []).trees, ())
        wide = Machine(["a", "b", "c"], ["x", "y", "z"], [])
        self.assertEqual(Net(wide, ["11"], [("in", 4)] * 5).trees, (("in", 4),) * 5)
        self.assertEqual(Net(FOLLOWER, ["", ""], (("or", (X,) * 240),)).trees[0], ("or", (X,) * 240))

    def test_equal_nets(self):
        one = Net(JOIN, ["0", "1"], [X, Y])
        self.says(True, one == Net(Machine(JOIN.inputs, JOIN.outputs, JOIN.arcs), ("0", "1"), (X, Y)))
        self.says(False, one != Net(JOIN, ("0", "1"), (X, Y)))
        others = [Net(JOIN, ["0", "0"], [X, Y]), Net(JOIN, ["0", "1"], [X, X]), Net(JOIN, ["0", "1"], [Y, X]),
                  Net(JOIN, ["00", "01"], [X, Y, Y]), Net(JOIN, ["", ""], [X]),
                  Net(Machine(["a", "b"], ["y"], [(0, ["a", "b"], ["y"], 1), (1, ["a", "b"], ["y"], 0)]),
                      ["0", "1"], [X, Y])]
        for other in others + anything() + [(JOIN, ("0", "1"), (X, Y))]:
            self.says(False, one == other)
            self.says(False, other == one)
            self.says(True, one != other)

    def test_wrong_codings(self):
        for machine, told in UNSOUND:
            for coding in (None, ["0"] * codes_needed(machine)):
                self.refuses(Unsound, told, Net, machine, coding, None)
        for coding in (None, [], [""], ["", "0"], ["000", "000"], [True, ""], ["", ["0"]]):
            self.refuses(InvalidCoding, {"at": wrong_coding(JOIN, coding)}, Net, JOIN, coding, None)

    def test_wrong_trees(self):
        for thing in anything() + [[X], [X] * 3, (X,), {0: X, 1: X}, "xx", X + X]:
            if not isinstance(thing, (list, tuple)) or len(thing) != 2:
                self.refuses(InvalidTrees, {"at": -1}, Net, JOIN, ["0", "1"], thing)
        for tree, _ in wrong_trees(3):
            self.refuses(InvalidTrees, {"at": 0}, Net, JOIN, ["0", "1"], [tree, tree])
            self.refuses(InvalidTrees, {"at": 1}, Net, JOIN, ["0", "1"], (X, tree))
        for thing in anything(39):
            with self.subTest(thing=names(thing)):
                if first_wrong(thing, 2) is not None:
                    self.refuses(InvalidTrees, {"at": 0}, Net, JOIN, ["", ""], [thing])
        # The number of variables counts: x2 is one with a wire alone.
        self.refuses(InvalidTrees, {"at": 0}, Net, JOIN, ["", ""], [C])
        self.refuses(InvalidTrees, {"at": 1}, Net, JOIN, ["0", "1"], [C, ("not", ("in", 3))])
        self.assertEqual(Net(JOIN, ["00", "11"], [C, ("in", 3), X]).trees[1], ("in", 3))
        for tree in (nest(40, lambda t: ("not", t), X), nest(40, lambda t: ("or", (t,)), X), ("or", (X,) * 241)):
            self.refuses(InvalidTrees, {"at": 0}, Net, FOLLOWER, ["", ""], [tree])


class Judged(Case):
    def test_the_example_of_the_document(self):
        trees = [X, ("not", X), ("or", (X, ("and", (X, ("not", X))))), ZERO]
        self.assertEqual([judged(Net(FOLLOWER, ["", ""], [tree])) for tree in trees],
                         [None, ("begin", 0), ("flicker", 0, 0, 0), ("value", 0, 0, 0, "1")])

    def test_each_kind_of_fault(self):
        # Majority of the inputs and the wire.
        pairs = [("and", (A, B)), ("and", (A, C)), ("and", (B, C))]
        good = ("or", tuple(pairs))
        told = [
            ([good, good], None), ([good, ("not", ("not", good))], None),
            # The beginning comes first, the first function that is wrong there.
            ([good, ONE], ("begin", 1)), ([("not", good), ONE], ("begin", 0)), ([ZERO, ("not", A)], ("begin", 1)),
            # A value ahead of a flicker of the same function, the least point.
            ([good, ZERO], ("value", 0, 0, 1, "110")), ([A, good], ("value", 0, 0, 0, "100")),
            ([("or", (A, B)), good], ("value", 0, 0, 0, "010")),
            # The functions in one step, then the steps, then the arcs.
            ([("and", (A, B)), good], ("value", 1, 0, 0, "011")),
            ([good, ("or", (pairs[0], pairs[1]))], ("value", 1, 0, 1, "011")),
            ([("and", (A, B, ("not", C))), good], ("value", 0, 1, 0, "111")),
            ([("or", (good, ("and", (A, ("not", A))))), good], ("flicker", 0, 0, 0)),
            ([good, ("or", (good, ("and", (B, ("not", B)))))], ("flicker", 0, 0, 1)),
            ([("or", (("and", (pairs[0], C)), ("and", (pairs[0], ("not", C))), *pairs[1:])), good],
             ("flicker", 0, 1, 0)),
            # A tree that is wrong in both ways.
            ([("and", (ZERO, ("or", (A, ("not", A))))), good], ("value", 0, 0, 0, "110")),
        ]
        for trees, found in told:
            net = Net(JOIN, ["0", "1"], trees)
            self.assertEqual(slow_judged(net), found)
            self.assertEqual(judged(net=net), found)

    def test_nets_with_a_clash(self):
        # Whatever the tree is, it cannot be right.
        for tree in some_trees(2, 60, 1):
            net = Net(JOIN, ["", ""], [tree])
            self.assertIsNotNone(judged(net))
            self.assertEqual(judged(net), slow_judged(net))
        self.assertEqual(judged(Net(JOIN, ["", ""], [("and", (X, Y))])), ("value", 1, 0, 0, "01"))

    def test_nets_without_arcs_or_functions(self):
        self.assertIsNone(judged(Net(Machine(["a"], [], []), ["11"], [ONE, ONE])))
        self.assertEqual(judged(Net(Machine(["a"], [], []), ["10"], [ONE, ONE])), ("begin", 1))
        self.assertIsNone(judged(Net(Machine(["a"], [], [(0, ["a"], [], 1), (1, ["a"], [], 0)]), ["", ""], [])))
        far = Machine(["a"], ["z"], [(1, ["a"], ["z"], 2)])
        self.assertIsNone(judged(Net(far, [""] * 3, [X])))

    def test_judged_by_chance(self):
        seen = {}
        for net in some_nets(250, 2, 4) + some_nets(60, 3, 6):
            found = judged(net)
            self.assertEqual(found, slow_judged(net))
            seen[kind_of(found)] = seen.get(kind_of(found), 0) + 1
        for key in (None, "begin", ("value", 0), ("value", 1), ("flicker", 0), ("flicker", 1)):
            self.assertGreater(seen.get(key, 0), 3, key)


class Made(Case):
    def test_the_example_of_the_document(self):
        net = made(JOIN)
        self.assertEqual([net.coding, write_tree(net.trees[0]), net.trees[0] == net.trees[1]],
                         [("0", "1"), "|(&(x1,x2),&(x0,x2),&(x0,x1))", True])

    def slow_made(self, machine, rules):
        """The words of [156]."""
        coding = codings(machine, fewest_wires(machine))[0]
        many = len(machine.inputs) + len(coding[0])
        return Net(machine, coding, [leanest(tree_of(many, cover), rules) for cover in book_of(machine, coding)])

    def test_made(self):
        wires = set()
        for machine in some_machines(120, 4):
            for rules in ((), SHORTER, tuple(TURNING[1:])):
                net = made(machine, rules=rules) if rules else made(machine)
                self.says(True, net == self.slow_made(machine, rules))
                self.assertIs(type(net), Net)
                # The facts: the net is right if all rules keep.
                self.assertIsNone(slow_judged(net))
                self.assertIsNone(judged(net))
                wires.add(len(net.coding[0]))
        self.assertEqual(wires, {0, 1, 2})
        self.assertEqual(write_tree(made(JOIN, rules=SHORTER).trees[0]), "|(&(x2,|(x1,x0)),&(x0,x1))")

    def test_leaner_trees(self):
        changed = 0
        for machine in some_machines(120, 5):
            net, lean = made(machine), made(machine, rules=SHORTER)
            for one, other in zip(net.trees, lean.trees):
                self.assertLessEqual(len(write_tree(other)), len(write_tree(one)))
                changed += one != other
        self.assertGreater(changed, 10)
        # A rule that does not keep may spoil the net.
        self.assertEqual(judged(made(FOLLOWER, rules=[(A, ZERO)])), ("value", 0, 0, 0, "1"))
        spoilt = made(JOIN, rules=[(("or", (A, B, C)), C)])
        self.assertEqual(judged(spoilt), slow_judged(spoilt))
        self.assertIsNotNone(judged(spoilt))

    def test_machines_without_arcs_and_without_functions(self):
        net = made(Machine(["a"], ["z"], []))
        self.assertEqual([net.coding, net.trees], [("",), (ZERO,)])
        net = made(Machine(["a"], [], [(0, ["a"], [], 1), (1, ["a"], [], 0)]))
        self.assertEqual([net.coding, net.trees], [("", ""), ()])

    def test_errors(self):
        for machine, told in UNSOUND:
            for rules in ((), None, [None]):
                self.refuses(Unsound, told, made, machine, rules=rules)
        # What is wrong with the rules comes ahead of the states and of the coding.
        wrong = [(None, -1, ()), ([None], -1, ()), ([(A, B)], 2, ()), ([(A, A)] * 9, -1, ()), ({}, -1, ()),
                 ([(A, A), (A, ("in", 7))], 1, ()), ([(A, A), (A,), None], -1, ()), ([(("or", (A, None)), A)], 0, (1,))]
        for rules, which, path in wrong:
            for machine in (JOIN, FIVE, WITHOUT_CODING[0], Machine(["a"], [], [])):
                self.refuses(InvalidRule, {"which": which, "path": path}, made, machine, rules=rules)
        for thing in anything():
            if not isinstance(thing, (list, tuple)) or len(thing) > 8:
                self.refuses(InvalidRule, {"which": -1, "path": ()}, made, FIVE, rules=thing)
        self.refuses(LimitExceeded, {"limit": 4}, made, FIVE)
        self.refuses(LimitExceeded, {"limit": 4}, made, FIVE, rules=TURNING)
        for machine in WITHOUT_CODING:
            self.refuses(NothingLeft, {"word": "coding"}, made, machine)
            self.refuses(NothingLeft, {"word": "coding"}, made, machine, rules=SHORTER)
        with self.assertRaises(TypeError):
            made(JOIN, [])

    def test_too_many_forms(self):
        growing = [(A, ("and", (A, A)))]
        self.refuses(LimitExceeded, {"limit": 200}, made, JOIN, rules=growing)
        self.refuses(LimitExceeded, {"limit": 200}, made, FOLLOWER, rules=growing)
        # Without a function there is no tree that has forms.
        self.assertEqual(made(Machine(["a"], [], []), rules=growing).trees, ())

    def test_the_trees_of_books_are_small(self):
        # A pruned cover has no product too many, so no machine of 16 arcs comes near 240 leaves.
        most = 0
        for machine, coding, trees in right_circuits(200, 6, 6):
            most = max([most] + [write_tree(tree).count("x") for tree in trees])
        self.assertLess(most, 120)

    def test_the_states_show_what_is_asked(self):
        for machine in some_machines(60, 8):
            net = made(machine)
            for state, (ins, outs) in entry_signs(machine).items():
                point = ins + net.coding[state]
                signs = "".join(str(int(tree_value(point, tree))) for tree in net.trees)
                if any(state in (arc[0], arc[3]) for arc in machine.arcs if arc[0] in reached(machine)):
                    self.assertEqual(signs, outs + net.coding[state])

    def test_no_call_changes_what_it_is_given(self):
        rules = list(SHORTER)
        kept = copy.deepcopy(rules)
        made(JOIN, rules=rules)
        self.assertEqual(rules, kept)


if __name__ == "__main__":
    unittest.main()
