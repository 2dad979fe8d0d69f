"""Nets: a tree of gates for each output and each state wire of a machine, and whether all is right."""

from burstshop.books import book_of, codings, fewest_wires
from burstshop.codes import function_count, need_coding, step_rows, variable_count
from burstshop.errors import InvalidTrees, NothingLeft
from burstshop.machines import need_sound
from burstshop.rules import leanest, need_rules
from burstshop.signs import cube_points, cube_span
from burstshop.trees import is_tree, longest_word, tree_of, tree_sign


class Net:
    """A sound machine, a coding of it, and a tree for each function."""

    def __init__(self, machine, coding, trees):
        need_coding(machine, coding)
        need_trees(trees, function_count(machine, coding), variable_count(machine, coding))
        self.machine = machine
        self.coding = tuple(coding)
        self.trees = tuple(trees)

    def __eq__(self, other):
        if not isinstance(other, Net):
            return False
        return self.machine == other.machine and self.coding == other.coding and self.trees == other.trees


def judged(net):
    """Return the first fault of a net, a tuple that begins with a word, or None if it is right for all delays."""
    function = begun_wrong(net)
    if function is not None:
        return ("begin", function)
    for arc, step, change, old, new in step_rows(net.machine, net.coding):
        for function, tree in enumerate(net.trees):
            point = wrong_point(tree, change, old[function], new[function])
            if point is not None:
                return ("value", arc, step, function, point)
            if len(longest_word(change, tree)) > 2:
                return ("flicker", arc, step, function)
    return None


def made(machine, *, rules=()):
    """Return a net with as few wires as there can be, its trees made leaner by the rules."""
    need_sound(machine)
    need_rules(rules)
    wires = fewest_wires(machine)
    if wires is None:
        raise NothingLeft("coding")
    coding = codings(machine, wires)[0]
    many = variable_count(machine, coding)
    trees = [leanest(tree_of(many, cover), rules) for cover in book_of(machine, coding)]
    return Net(machine, coding, trees)


def need_trees(trees, many, n):
    """Refuse what is not a sequence of so many trees of n inputs."""
    if not isinstance(trees, (list, tuple)) or len(trees) != many:
        raise InvalidTrees(-1)
    for at, tree in enumerate(trees):
        if not is_tree(tree, n):
            raise InvalidTrees(at)


def first_signals(net):
    """Return the signs of the variables at the beginning."""
    return "0" * len(net.machine.inputs) + net.coding[0]


def begun_wrong(net):
    """Return the first function whose tree has a wrong sign at the beginning, or None."""
    point = first_signals(net)
    signs = "0" * len(net.machine.outputs) + net.coding[0]
    for function, tree in enumerate(net.trees):
        if tree_sign(point, tree) != signs[function]:
            return function
    return None


def wrong_point(tree, change, old, new):
    """Return the least point of a step at which the tree has not the sign new, at the end, or else old."""
    start, end = change
    for point in cube_points(cube_span(start, end)):
        if tree_sign(point, tree) != (new if point == end else old):
            return point
    return None
