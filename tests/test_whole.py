"""The whole program: the interface as it is listed, all worked examples, and promises [2] to [4] over all modules."""

import ast
import importlib
import inspect
import pathlib
import re
import unittest

import burstshop
from burstshop import errors
from burstshop.errors import ShopError
from tests.helper import Case

# For each module the functions and classes that the interface lists, with the names of their arguments; behind a bare
# star those that are passed by name alone. For a class, those of its methods, too.
FUNCTIONS = {
    "cubes": """is_point(thing, n) is_cube(thing, n) holds(c, d) meet(c, d) consensus(c, d) span(c, d) distance(c, d)
        points_of(cube) literals(cube) all_cubes(n)""",
    "changes": """is_change(thing, n) change_cube(change) nature(table, change) is_plain(table, change)
        is_uneven(table, change, points) turning(table, change) plain_changes(table)""",
    "covers": """is_cover(thing, n) covered(point, cover) misfit(table, cover) wires(change, cover)
        is_order(change, cover, thing) played(change, cover, order) longest(change, cover) product_words(change, cover)
        longest_order(change, cover) flicker(change, cover) calm(change, cover) why(change, cover)
        orders(change, cover)""",
    "growth": """broken(demand, cube) good_primes(demand) needed(demand) is_good(demand, cube) grown(demand, cube)
        is_growth(demand, cube, thing) barred(demand) is_bar(demand, thing)""",
    "least": """is_cover_for(demand, thing) grown_cover(demand) pruned(demand, cover) widened(demand, cover)
        small_cover(demand) essentials(demand) needless(demand, cover) least_covers(demand) least_size(demand)""",
    "trees": """is_tree(thing, n) measure(tree) at_point(point, tree) settled(cube, tree) is_play(change, tree, thing)
        word_of_play(change, tree, play) longest_of(change, tree) longest_play(change, tree) calm_tree(change, tree)
        flicker_play(change, tree) tree_of(n, cover)""",
    "rules": """need_rule(thing) put_in(tree, trees) broken_by(rule) letter_tree(word) fitted(tree, path, rule)
        rewritten(tree, path, rule) forms(tree, rules) leanest(tree, rules)""",
    "machines": """fault(machine) met(machine) arcs_met(machine) entries(machine) feed(machine, standing, name)
        follow(machine, names) ways(machine, many)""",
    "likeness": "does(one, other) least(machine)",
    "programs": "need_program(thing) openings(rest) machine_of(program, inputs, outputs) told(program, names)",
    "codes": "steps(machine, coding, arc) clash(machine, coding)",
    "books": """demand_of(machine, coding, function) book_of(machine, coding) is_book(machine, coding, thing)
        codings(machine, wires) fewest_wires(machine)""",
    "nets": "judged(net) made(machine, *, rules=())",
    "boards": "bad_row(net)",
    "webs": "react(web, standing, burst) stands_for(web, machine)",
    "treetexts": "write_tree(tree) read_tree(text)",
    "texts": """write_program(program) write_machine(machine) write_net(net) read_program(text) read_machine(text)
        read_net(text)""",
}
CLASSES = {
    ("tables", "Table(text)"): "value(self, point) ons(self) offs(self) frees(self) primes(self) refines(self, other)",
    ("growth", "Demand(table, changes=())"): "only(self, numbers)",
    ("words", "Word(text)"): "",
    ("machines", "Machine(inputs, outputs, arcs)"): "",
    ("nets", "Net(machine, coding, trees)"): "",
    ("boards", "Board(net)"): """moves(self) move(self, thing) standing(self) signals(self) shown(self)
        is_resting(self) done(self) twin(self) wrong(self)""",
    ("webs", "Web(parts)"): "begin(self)",
    ("desk", "Desk(machine)"): """code(self, coding) build(self) rewrite(self, function, path, rule) net(self)
        judged(self) is_right(self) undo(self) redo(self) twin(self) attempt(self, deeds) trial(self, deeds)""",
}
# The signs and brackets that the classes answer to, each by a method of their own.
SIGNS = {
    "Table": ["__eq__"], "Demand": ["__len__", "__getitem__", "__contains__", "__eq__", "__add__"],
    "Word": ["__or__", "__and__", "__invert__", "__eq__"], "Machine": ["__eq__"], "Net": ["__eq__"],
    "Desk": ["__len__", "__getitem__", "__setitem__", "__contains__"],
}
# What a call of the last line of each example gives stands behind it.
EXAMPLES = r"""
>>> from burstshop.cubes import consensus, meet
>>> [consensus("1-0", "01-"), meet("1-0", "11-")]
['-10', '110']

>>> from burstshop.changes import nature, turning
>>> from burstshop.tables import Table
>>> [nature(Table("0111"), ("00", "11")), turning(Table("0111"), ("00", "11")), nature(Table("0-11"), ("00", "11"))]
[('rise',), '11', ('free', '01')]

>>> from burstshop.covers import longest, product_words, why
>>> change = ("00", "11")
>>> [product_words(change, ["0-", "-1"]), longest(change, ["0-", "-1"]), why(change, ["0-", "-1"]), why(change, ["0-", "-1", "--"])]
[['10', '01'], '101', ('alone',), None]

>>> from burstshop.trees import settled, word_of_play
>>> tree = ("or", (("in", 0), ("not", ("in", 1))))
>>> [word_of_play(("00", "11"), tree, ((0, 1), ((), ()))), word_of_play(("00", "11"), tree, ((1, 0), ((), ()))), settled("1-", tree), settled("0-", tree)]
['1', '101', '1', '-']

>>> from burstshop.words import Word
>>> (Word("010") & Word("01")).text
'010'

>>> from burstshop.rules import broken_by, forms, put_in
>>> a, b, c = ("in", 0), ("in", 1), ("in", 2)
>>> [put_in(("and", (a, ("not", b))), {0: c, 1: ("or", (a, c))}), broken_by((("or", (a, b)), ("or", (a, ("and", (("not", a), b)))))), broken_by((("or", (a, ("and", (("not", a), b)))), ("or", (a, b)))), forms(("and", (b, a)), [(("and", (a, b)), ("and", (b, a)))])]
[('and', (('in', 2), ('not', ('or', (('in', 0), ('in', 2)))))), [(0, '01'), (1, '1')], None, [('and', (('in', 0), ('in', 1))), ('and', (('in', 1), ('in', 0)))]]

>>> from burstshop.rules import rewritten
>>> a, b, c = ("in", 0), ("in", 1), ("in", 2)
>>> tree = ("not", ("or", (("and", (a, c)), ("and", (a, b)))))
>>> rewritten(tree, (0,), (("or", (("and", (a, b)), ("and", (a, c)))), ("and", (a, ("or", (b, c))))))
('not', ('and', (('in', 0), ('or', (('in', 2), ('in', 1))))))

>>> from burstshop.machines import Machine, feed, follow, ways
>>> m = Machine(["a", "b"], ["z"], [(0, ["b", "a"], ["z"], 1), (1, ["a", "b"], ["z"], 0)])
>>> [m.arcs[0], feed(m, (0, ("a",)), "b"), feed(m, (0, ("a",)), "a"), follow(m, ["b", "a", "a"]), ways(m, 3)]
[(0, ('a', 'b'), ('z',), 1), ((1, ()), ('z',)), None, [(), ('z',), ()], 4]

>>> from burstshop.machines import Machine, fault
>>> [fault(Machine(["a"], [], [(0, ["a"], [], 0)])), fault(Machine(["a", "b"], [], [(0, ["a", "b"], [], 1), (0, ["b"], [], 2)]))]
[('entry', 0), ('within', 1)]

>>> from burstshop.likeness import does, least
>>> from burstshop.machines import Machine
>>> one = Machine(["a"], ["z"], [(0, ["a"], ["z"], 1), (1, ["a"], ["z"], 0)])
>>> two = Machine(["a"], ["z"], [(0, ["a"], ["z"], 1), (1, ["a"], ["z"], 2), (2, ["a"], ["z"], 3), (3, ["a"], ["z"], 2)])
>>> [least(two) == one, does(one, Machine(["a"], ["z"], [(0, ["a"], ["z"], 1), (1, ["a"], [], 2)]))]
[True, [('a',), ('a',)]]

>>> from burstshop.programs import machine_of, told
>>> p = ("loop", ("row", (("do", ("a",), ("z",)), ("do", ("b", "a"), ()))))
>>> [machine_of(p, ["a", "b"], ["z"]).arcs, told(p, ["a", "b", "a"])]
[((0, ('a',), ('z',), 1), (1, ('a', 'b'), (), 0)), [('z',), (), ()]]

>>> from burstshop.programs import told
>>> told(("loop", ("row", (("do", ("a",), ("z",)), ("do", ("b", "a"), ())))), ["a", "b", "b"])
raises Choke(2)

>>> from burstshop.programs import need_program
>>> need_program(("row", (("stop",), ("do", ("a",), ()))))
raises BadProgram((0,))

>>> from burstshop.books import book_of, codings, demand_of, fewest_wires
>>> from burstshop.codes import clash, steps
>>> from burstshop.machines import Machine
>>> m = Machine(["a", "b"], ["z"], [(0, ["a", "b"], ["z"], 1), (1, ["a", "b"], ["z"], 0)])
>>> [clash(m, ["", ""]), codings(m, 1), fewest_wires(m), steps(m, ["0", "1"], 1), demand_of(m, ["0", "1"], 0).table.text, book_of(m, ["0", "1"])]
[(1, 0), [['0', '1']], 1, [('111', '001'), ('001', '000')], '00010111', [['-11', '1-1', '11-'], ['-11', '1-1', '11-']]]

>>> from burstshop.texts import write_machine, write_program
>>> from burstshop.machines import Machine
>>> m = Machine(["a", "b"], ["z"], [(0, ["a", "b"], ["z"], 1), (1, ["a", "b"], ["z"], 0)])
>>> [write_program(("loop", ("row", (("do", ("a",), ("z",)), ("do", ("b", "a"), ()))))), write_machine(m).split("\n")]
['{[a>z;b+a>]}', ['inputs a b', 'outputs z', 'arc 0 a+b z 1', 'arc 1 a+b z 0', '']]

>>> from burstshop.texts import read_program
>>> read_program("{a>z;")
raises InvalidText(4)

>>> from burstshop.treetexts import read_tree
>>> read_tree("&(x0,x5)")
raises InvalidText(6)

>>> from burstshop.texts import read_machine
>>> read_machine("inputs a\noutputs\narc 0 a - 1")
raises InvalidText(3)

>>> from burstshop.desk import Desk
>>> from burstshop.machines import Machine
>>> desk = Desk(Machine(["a"], ["z"], [(0, ("a",), ("z",), 1), (1, ("a",), ("z",), 0)]))
>>> desk.code(["", ""])
>>> desk.build()
>>> desk.rewrite(0, (), (("in", 0), ("not", ("not", ("in", 0)))))
>>> [desk[0], desk.is_right(), len(desk), desk.coding]
[('not', ('not', ('in', 0))), True, 1, ('', '')]

>>> from burstshop.boards import Board
>>> from burstshop.machines import Machine
>>> from burstshop.nets import Net
>>> follower = Machine(("a",), ("z",), [(0, ("a",), ("z",), 1), (1, ("a",), ("z",), 0)])
>>> board = Board(Net(follower, ["", ""], [("in", 0)]))
>>> board.move(("input", "a"))
>>> rows = [board.moves(), board.standing()]
>>> board.move(("leaf", 0, ()))
>>> rows + [board.standing(), board.shown(), board.wrong()]
[[('leaf', 0, ())], (0, ('a',)), (1, ()), '1', None]

>>> from burstshop.boards import bad_row
>>> from burstshop.machines import Machine
>>> from burstshop.nets import Net, judged
>>> follower = Machine(("a",), ("z",), [(0, ("a",), ("z",), 1), (1, ("a",), ("z",), 0)])
>>> x = ("in", 0)
>>> trees = [x, ("not", x), ("or", (x, ("and", (x, ("not", x))))), ("zero",)]
>>> [judged(Net(follower, ["", ""], [tree])) for tree in trees] + [bad_row(Net(follower, ["", ""], [("not", x)]))]
[None, ('begin', 0), ('flicker', 0, 0, 0), ('value', 0, 0, 0, '1'), []]

>>> from burstshop.machines import Machine
>>> from burstshop.nets import made
>>> from burstshop.treetexts import write_tree
>>> net = made(Machine(("a", "b"), ("z",), [(0, ("a", "b"), ("z",), 1), (1, ("a", "b"), ("z",), 0)]))
>>> [net.coding, write_tree(net.trees[0]), net.trees[0] == net.trees[1]]
[('0', '1'), '|(&(x1,x2),&(x0,x2),&(x0,x1))', True]

>>> from burstshop.machines import Machine
>>> from burstshop.webs import Web, react, stands_for
>>> fork = Machine(("a",), ("x", "y"), [(0, ("a",), ("x", "y"), 1), (1, ("a",), ("x", "y"), 0)])
>>> join = Machine(("x", "y"), ("z",), [(0, ("x", "y"), ("z",), 1), (1, ("x", "y"), ("z",), 0)])
>>> web = Web([fork, join])
>>> [web.inputs, web.outputs, react(web, web.begin(), ["a"]), stands_for(web, Machine(("a",), ("z",), [(0, ("a",), ("z",), 1), (1, ("a",), ("z",), 0)]))]
[('a',), ('z',), ('rest', (((1, ()), (1, ())), ()), {'z': 1}), None]

>>> from burstshop.machines import Machine
>>> from burstshop.webs import Web, react
>>> fork = Machine(("a",), ("x", "y"), [(0, ("a",), ("x", "y"), 1), (1, ("a",), ("x", "y"), 0)])
>>> arcs = [(0, ("x",), ("p",), 1), (0, ("y",), ("q",), 2), (1, ("y",), (), 3), (2, ("x",), (), 4)]
>>> web = Web([fork, Machine(("x", "y"), ("p", "q"), arcs)])
>>> react(web, web.begin(), ["a"])
('race', [('a', 0)])
"""


def listed(text):
    """Pairs of the name and the whole of each call that a text lists."""
    return [(call.split("(")[0], call) for call in re.findall(r"\w+\((?:[^()]|\(\))*\)", text)]


class Interface(Case):
    def module(self, name):
        return importlib.import_module("burstshop." + name)

    def test_functions(self):
        for name, text in FUNCTIONS.items():
            module = self.module(name)
            for function, call in listed(text):
                own = getattr(module, function)
                self.assertTrue(inspect.isfunction(own))
                self.assertEqual(function + str(inspect.signature(own)), call)
                self.assertEqual(own.__module__, module.__name__)

    def test_classes(self):
        for (name, call), text in CLASSES.items():
            module = self.module(name)
            own = getattr(module, call.split("(")[0])
            self.assertTrue(inspect.isclass(own))
            self.assertEqual(own.__name__ + str(inspect.signature(own)), call)
            self.assertEqual(own.__module__, module.__name__)
            for method, told in listed(text):
                self.assertEqual(method + str(inspect.signature(vars(own)[method])), told)
            for sign in SIGNS.get(own.__name__, []):
                self.assertIn(sign, vars(own))
        table = self.module("tables").Table
        self.assertEqual(str(inspect.signature(table.told)), "(n, *, ons, frees=())")
        self.assertIsInstance(vars(table)["told"], classmethod)

    def test_all_errors_stand_directly_below_the_base(self):
        found = [thing for thing in vars(errors).values() if inspect.isclass(thing)]
        self.assertEqual(len(found), 30)
        self.assertEqual({thing.__bases__ for thing in found if thing is not ShopError}, {(ShopError,)})

    def test_no_module_uses_anything_from_outside(self):
        folder = pathlib.Path(burstshop.__file__).parent
        for path in sorted(folder.iterdir()):
            if path.name == "__pycache__":
                continue
            self.assertEqual(path.suffix, ".py")
            tree = ast.parse(path.read_text())
            for node in ast.walk(tree):
                self.assertNotIsInstance(node, ast.Import)
                if isinstance(node, ast.ImportFrom):
                    self.assertEqual([node.level, node.module.split(".")[0]], [0, "burstshop"])
                if isinstance(node, (ast.FunctionDef, ast.ClassDef)):
                    self.assertTrue(ast.get_docstring(node) or node.name.startswith("__"))


class Examples(Case):
    def test_the_worked_examples(self):
        blocks = EXAMPLES.strip().split("\n\n")
        self.assertEqual(len(blocks), 24)
        for block in blocks:
            rows = [line[4:] for line in block.split("\n") if line.startswith(">>> ")]
            answer, = [line for line in block.split("\n") if not line.startswith(">>> ")]
            space = {}
            for row in rows[:-1]:
                exec(row, space)
            with self.subTest(row=rows[-1]):
                self.assertEqual(self.told(rows[-1], space), answer)

    def told(self, row, space):
        """What an example gives, or the error that it raises with its attributes."""
        try:
            return repr(eval(row, space))
        except ShopError as error:
            return f"raises {type(error).__name__}({', '.join(repr(value) for value in vars(error).values())})"


if __name__ == "__main__":
    unittest.main()
