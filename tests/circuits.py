"""What the tests of codes, books, nets, boards and the desk share: slow answers by definition, codings and nets."""

import functools

from burstshop.books import book_of, codings, fewest_wires
from burstshop.errors import Clash, NothingLeft
from burstshop.machines import Machine
from burstshop.nets import Net
from burstshop.trees import tree_of
from tests.helper import (NAMES, inside, parts_in, points, random_tree, reached, sample, signs_of_set, slow_entries,
                          slow_longest_of, slow_span, some_machines, too_long, tree_value)

FOLLOWER = Machine(["a"], ["z"], [(0, ["a"], ["z"], 1), (1, ["a"], ["z"], 0)])
# A machine that needs a wire, that of the example behind [135].
JOIN = Machine(["a", "b"], ["z"], [(0, ["a", "b"], ["z"], 1), (1, ["a", "b"], ["z"], 0)])
# Machines with a fault, and what Unsound tells of it.
UNSOUND = [
    (Machine(["a"], ["z"], [(0, ["a"], [], 1), (1, ["a"], [], 1)]), {"why": "entry", "at": 1}),
    (Machine(["a", "b"], ["z"], [(1, ["a"], [], 2), (0, ["a"], [], 1), (0, ["a"], [], 2)]), {"why": "within", "at": 1}),
    (Machine(NAMES, [], [(7, NAMES, [], 1), (7, ["c"], [], 1)]), {"why": "within", "at": 1}),
]
# Machines for which there is no coding with 2 wires or fewer.
WITHOUT_CODING = [
    Machine(NAMES, ["x", "y"], [
        (1, ["b2", "c"], ["x"], 3), (3, ["b2", "c"], ["x"], 1), (7, NAMES, ["x"], 3), (0, ["a", "b2"], ["x", "y"], 3),
        (0, ["c"], ["y"], 7), (3, ["a", "b2"], ["x", "y"], 0), (1, ["a", "c"], ["y"], 0)]),
    Machine(NAMES, ["x", "y", "z"], [
        (0, NAMES, ["y"], 1), (6, ["a", "b2"], ["z"], 0), (1, ["b2"], ["x", "y"], 2), (1, ["c"], ["y", "z"], 6),
        (2, ["b2", "c"], ["x", "z"], 6), (6, ["b2", "c"], ["x", "z"], 2), (2, ["a", "c"], ["x"], 0)]),
]

# Machines and codings without a clash, for which there is no book; the last one has several functions.
BARRED = [
    (Machine(["a", "b"], [], [(0, ["a"], [], 1), (1, ["a"], [], 2), (2, ["a", "b"], [], 3)]), ["0", "1", "1", "0"]),
    (Machine(NAMES, [], [(0, ["a"], [], 1), (1, ["a", "c"], [], 2), (2, NAMES, [], 3), (3, ["b2"], [], 1)]),
     ["0", "1", "1", "0"]),
    (Machine(["a", "b"], [], [(0, ["b"], [], 6), (0, ["a"], [], 5), (6, ["b"], [], 0), (6, ["a"], [], 2),
                              (5, ["a", "b"], [], 6), (2, ["a", "b"], [], 0)]), ["0", "1", "1", "1", "1", "0", "1"]),
    (Machine(NAMES, ["x", "y"], [
        (0, ["c"], ["y"], 2), (2, ["c"], ["y"], 0), (2, ["a", "b2"], ["y"], 7), (7, ["a", "c"], ["y"], 5),
        (7, ["a", "b2"], ["y"], 2), (5, ["a", "c"], ["y"], 7), (5, ["b2"], ["y"], 0)]),
     ["00", "10", "00", "00", "01", "00", "01", "01"]),
]


def arc_order(machine):
    """The indexes of the reached arcs in the order of [102]."""
    return [at for state in reached(machine) for at, arc in enumerate(machine.arcs) if arc[0] == state]


def entry_signs(machine):
    """A dict from the reached states to the signs of inputs and outputs with which they are entered."""
    told = {}
    for state, values in slow_entries(machine).items():
        (ins, outs), = values
        told[state] = (signs_of_set(machine.inputs, ins), signs_of_set(machine.outputs, outs))
    return told


def slow_plan(machine, coding):
    """For each reached arc: index, signs of the functions before and behind, and steps, by the words of [131]."""
    entered = entry_signs(machine)
    rows = []
    for at in arc_order(machine):
        s, t = machine.arcs[at][0], machine.arcs[at][3]
        (a, outs), (b, new_outs), c, d = entered[s], entered[t], coding[s], coding[t]
        steps = [(a + c, b + c)] + ([(b + c, b + d)] if c != d else [])
        rows.append((at, outs + c, new_outs + d, steps))
    return rows


def step_signs(old, new, number, change):
    """Pairs of a point of a step's cube and the sign that a function has there, by the words of [131]."""
    start, end = change
    return [(p, new if number == 1 or p == end else old) for p in sorted(inside(slow_span(start, end)))]


def slow_clash(machine, coding):
    """The words of [132]."""
    seen = {}
    for at, old, new, steps in slow_plan(machine, coding):
        for function in range(len(old)):
            for number, change in enumerate(steps):
                for point, sign in step_signs(old[function], new[function], number, change):
                    if seen.setdefault((function, point), sign) != sign:
                        return (at, function)
    return None


def slow_demand(machine, coding, function):
    """The text of the table and the list of the changes of a function's demand, by the words of [133]."""
    many = len(machine.inputs) + len(coding[0])
    signs, listed = {}, []
    for _, old, new, steps in slow_plan(machine, coding):
        for number, change in enumerate(steps):
            signs.update(step_signs(old[function], new[function], number, change))
            listed += [change] if change not in listed else []
    return "".join(signs.get(point, "-") for point in points(many)), listed


def codes_needed(machine):
    """How many codes a coding has."""
    return max([0] + [state for arc in machine.arcs for state in (arc[0], arc[3])]) + 1


def wrong_coding(machine, thing):
    """The number of InvalidCoding, or None, by the words of [130]."""
    if not isinstance(thing, (list, tuple)) or len(thing) != codes_needed(machine):
        return -1
    for at, code in enumerate(thing):
        if not isinstance(code, str) or code not in ("", "0", "1", "00", "01", "10", "11"):
            return at
        if len(code) != len(thing[0]):
            return at
    return None


def random_coding(machine, source, wires):
    """A coding by chance; often that of the state 0 has no "1"."""
    rows = ["".join(source.choice("01") for _ in range(wires)) for _ in range(codes_needed(machine))]
    return ["0" * wires] + rows[1:] if source.randrange(2) else rows


def some_codings(machine, source):
    """Codings of a machine, most of them with a clash."""
    return [random_coding(machine, source, wires) for wires in (0, 1, 1, 2, 2, 2)]


def a_coding(machine, source):
    """Some coding of a machine for which there is a book, or None."""
    if len(reached(machine)) > 4:
        found = [coding for coding in some_codings(machine, source) * 3 if has_book(machine, coding)]
    else:
        wires = fewest_wires(machine)
        found = [] if wires is None else codings(machine, min(2, wires + source.choice([0, 0, 0, 1])))
    return source.choice(found) if found else None


def has_book(machine, coding):
    try:
        book_of(machine, coding)
    except (Clash, NothingLeft):
        return False
    return True


@functools.cache
def right_circuits(many, seed, most_states=4):
    """Triples of a sound machine, a coding and the trees of its book."""
    source = sample(seed)
    rows = []
    for machine in some_machines(3 * many, seed, most_states):
        coding = a_coding(machine, source) if len(rows) < many else None
        if coding is not None:
            n = len(machine.inputs) + len(coding[0])
            rows.append((machine, coding, [tree_of(n, cover) for cover in book_of(machine, coding)]))
    return rows


def with_other_node(tree, source, change):
    """The tree with one node, by chance, replaced by what change makes of it."""
    parts = parts_in(tree)
    if not parts or source.randrange(4) == 0:
        return change(tree)
    at = source.randrange(len(parts))
    new = [with_other_node(part, source, change) if k == at else part for k, part in enumerate(parts)]
    return ("not", new[0]) if tree[0] == "not" else (tree[0], tuple(new))


def worse(tree, n, source):
    """A tree of n inputs that is like the tree but for one place, often one that flickers."""
    x = ("in", source.randrange(n))
    changes = [
        lambda t: ("or", (t, ("and", (x, ("not", x))))), lambda t: ("and", (t, ("or", (x, ("not", x))))),
        lambda t: ("or", (t, t)), lambda t: ("not", ("not", t)), lambda t: random_tree(n, source, 2, 2),
        lambda t: ("or", (t, ("and", (t, x)))), lambda t: ("and", (t, x)), lambda t: ("or", (t, x)),
        lambda t: ("or", (("and", (x, t)), ("and", (("not", x), t)))), lambda t: ("not", t),
        lambda t: t if t[0] not in ("or", "and") or len(t[1]) < 2 else (t[0], t[1][1:]),
    ]
    return with_other_node(tree, source, source.choice(changes))


def some_nets(many, seed, most_states=4, wrong=2):
    """Nets, right ones and, of each, so many that may be wrong."""
    source = sample(seed)
    nets = []
    for machine, coding, trees in right_circuits(many, seed, most_states):
        n = len(machine.inputs) + len(coding[0])
        nets.append(Net(machine, coding, trees))
        for _ in range(wrong):
            others = list(trees)
            if others:
                at = source.randrange(len(others))
                others[at] = worse(others[at], n, source)
            codes = random_coding(machine, source, len(coding[0])) if source.randrange(5) == 0 else coding
            nets.append(Net(machine, codes, others))
    return nets


def slow_judged(net):
    """The words of [151]."""
    machine, coding = net.machine, net.coding
    begin = "0" * len(machine.inputs) + coding[0]
    for function, tree in enumerate(net.trees):
        if str(int(tree_value(begin, tree))) != ("0" * len(machine.outputs) + coding[0])[function]:
            return ("begin", function)
    for arc, old, new, steps in slow_plan(machine, coding):
        for number, change in enumerate(steps):
            for function, tree in enumerate(net.trees):
                for point, sign in step_signs(old[function], new[function], number, change):
                    if str(int(tree_value(point, tree))) != sign:
                        return ("value", arc, number, function, point)
                if too_long(slow_longest_of(change, tree)):
                    return ("flicker", arc, number, function)
    return None


def kind_of(found):
    """What judged tells, without the places: None, "begin", or the word and the step."""
    return found if found is None else found[0] if found[0] == "begin" else (found[0], found[2])
