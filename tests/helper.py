"""What several tests share: slow answers by the words of the document, wrong values, and checks."""

import copy
import functools
import itertools
import random
import unittest

from burstshop.boards import Board
from burstshop.desk import Desk
from burstshop.errors import InvalidCube, NothingLeft, ShopError
from burstshop.growth import Demand
from burstshop.machines import Machine
from burstshop.nets import Net
from burstshop.tables import Table
from burstshop.webs import Web
from burstshop.words import Word

SIZES = (1, 2, 3, 4, 5)


def sample(seed):
    """A row of numbers that is the same in each run."""
    return random.Random(seed)


def points(n):
    return ["".join(signs) for signs in itertools.product("01", repeat=n)]


def cubes(n):
    return ["".join(signs) for signs in itertools.product("-01", repeat=n)]


@functools.cache
def inside(cube):
    """The points of a cube: those with its sign wherever it is not "-"."""
    return frozenset(p for p in points(len(cube)) if all(c in ("-", s) for c, s in zip(cube, p)))


def tables(n):
    return ["".join(signs) for signs in itertools.product("01-", repeat=2 ** n)]


def some_tables(n, many, seed, signs="01-"):
    """Texts of tables of n inputs; the first ones are all of one sign."""
    source = sample(seed)
    rows = [sign * 2 ** n for sign in sorted(set(signs))]
    while len(rows) < many:
        # A table in which one sign is rare has larger cubes than one in which all are as frequent.
        row = source.choice([signs, signs + "0" * 6, signs + "1" * 6, "01"])
        rows.append("".join(source.choice(row) for _ in range(2 ** n)))
    return rows


def changes(n):
    """All changes of n inputs."""
    return [(start, end) for start in points(n) for end in points(n) if start != end]


def slow_span(c, d):
    return "".join(a if a == b else "-" for a, b in zip(c, d))


def signs_of(text):
    return dict(zip(points(len(text).bit_length() - 1), text))


def most_turns(signs, start, end):
    """How often the table's value turns at most while each input that differs turns once."""
    most = {end: 0}
    # The points nearer to the end come first.
    room = sorted(inside(slow_span(start, end)), key=lambda point: sum(a != b for a, b in zip(point, end)))
    for point in room[1:]:
        rest = inside(slow_span(point, end)) - {point}
        most[point] = max((signs[point] != signs[other]) + most[other] for other in rest)
    return most[start]


@functools.cache
def slow_kind(text, change):
    """The word that the nature of a change begins with, by the words of [18]."""
    signs = signs_of(text)
    start, end = change
    shown = {signs[point] for point in inside(slow_span(start, end))}
    if "-" in shown:
        return "free"
    if most_turns(signs, start, end) > (signs[start] != signs[end]):
        return "uneven"
    return {"00": "low", "11": "high", "01": "rise", "10": "fall"}[signs[start] + signs[end]]


def shows_uneven(text, change, thing):
    """Whether thing shows that a change is uneven, by the words of [19]."""
    signs = signs_of(text)
    start, end = change
    if not isinstance(thing, (list, tuple)) or len(thing) < 2:
        return False
    if not all(isinstance(item, str) and item in signs and signs[item] != "-" for item in thing):
        return False
    if thing[0] != start or thing[-1] != end:
        return False
    for k in range(1, len(thing)):
        if thing[k] == thing[k - 1] or thing[k] not in inside(slow_span(thing[k - 1], end)):
            return False
    turns = sum(signs[thing[k]] != signs[thing[k - 1]] for k in range(1, len(thing)))
    return turns >= 1 if signs[start] == signs[end] else turns >= 2


def slow_is_cover(thing, n):
    if not isinstance(thing, (list, tuple)) or len(thing) > 100:
        return False
    return all(isinstance(c, str) and len(c) == n and set(c) <= set("01-") for c in thing)


def slow_covered(point, cover):
    return any(point in inside(product) for product in cover)


def slow_misfit(text, cover):
    for point, sign in signs_of(text).items():
        if sign != "-" and slow_covered(point, cover) != (sign == "1"):
            return point
    return None


def slow_wires(change, cover):
    start, end = change
    return [(j, i) for j in range(len(cover)) for i in range(len(start)) if cover[j][i] != "-" and start[i] != end[i]]


def shown(change, cover, turned):
    """The value of the OR while the wires of turned have turned, by the words of [25]."""
    start, end = change
    for j, product in enumerate(cover):
        seen = [end[i] if (j, i) in turned else start[i] for i in range(len(start))]
        if all(sign == "-" or sign == value for sign, value in zip(product, seen)):
            return "1"
    return "0"


def slow_word(change, cover, order):
    word = shown(change, cover, set())
    for k in range(len(order)):
        sign = shown(change, cover, set(order[:k + 1]))
        word += sign if sign != word[-1] else ""
    return word


def too_long(word):
    """Whether a word is longer than needed, by the words of [26]."""
    return (len(word) > 1 and word[0] == word[-1]) or len(word) > 2


def longest_by_subsets(change, cover):
    """The longest word of all orders, by all sets of wires that may have turned; for few wires."""
    rows = slow_wires(change, cover)
    words = {0: shown(change, cover, set())}
    for mask in range(1, 2 ** len(rows)):
        sign = shown(change, cover, {wire for k, wire in enumerate(rows) if mask >> k & 1})
        before = [words[mask ^ 1 << k] for k in range(len(rows)) if mask >> k & 1]
        words[mask] = max((word if word[-1] == sign else word + sign for word in before), key=len)
    return words[2 ** len(rows) - 1]


@functools.cache
def slow_product_word(change, product):
    return longest_by_subsets(change, [product])


def slow_longest(change, cover):
    """The longest word, by the words of the products combined as signals with delays of their own."""
    words = [slow_product_word(change, product) for product in cover]
    if "1" in words:
        return "1"
    zeros = 1 + sum(word.count("0") - 1 for word in words)
    first = "1" if any(word[0] == "1" for word in words) else ""
    last = "1" if any(word[-1] == "1" for word in words) else ""
    return first + "1".join("0" * zeros) + last


def slow_fits(text, listed, cover):
    """Whether cover is a cover for the demand of a table and changes, by the words of [50]."""
    if not slow_is_cover(cover, len(text).bit_length() - 1) or slow_misfit(text, cover) is not None:
        return False
    return not any(too_long(slow_longest(change, cover)) for change in listed)


@functools.cache
def turning_end(text, change):
    """The end of a rise or fall that is on, else None."""
    signs = signs_of(text)
    kind = slow_kind(text, change)
    end = {"rise": change[1], "fall": change[0]}.get(kind)
    assert end is None or signs[end] == "1"
    return end


def slow_broken(text, listed, cube):
    """The numbers of the changes that a cube breaks, by the words of [43]."""
    numbers = []
    for at, change in enumerate(listed):
        end = turning_end(text, change)
        if end is not None and inside(cube) & inside(slow_span(*change)) and end not in inside(cube):
            numbers.append(at)
    return numbers


def has_off(text, cube):
    signs = signs_of(text)
    return any(signs[point] == "0" for point in inside(cube))


def slow_good(text, listed, cube):
    return not has_off(text, cube) and slow_broken(text, listed, cube) == []


def outer(rows):
    """The cubes that no other one of them holds, ascending, each once."""
    return sorted(c for c in set(rows) if not any(inside(c) < inside(d) for d in rows))


def slow_good_primes(text, listed):
    return outer([cube for cube in cubes(len(text).bit_length() - 1) if slow_good(text, listed, cube)])


def slow_growths(text, listed, cube):
    """All growths of a cube, as pairs of the last cube and the list of the steps."""
    numbers = slow_broken(text, listed, cube)
    if not numbers:
        return [(cube, [])]
    rows = []
    for at in numbers:
        larger = slow_span(cube, turning_end(text, listed[at]))
        rows += [(last, [(at, larger)] + steps) for last, steps in slow_growths(text, listed, larger)]
    return rows


def slow_needed(text, listed):
    """The needed cubes, by the words of [48]."""
    signs = signs_of(text)
    rows = [point for point in signs if signs[point] == "1"]
    for change in listed:
        room = inside(slow_span(*change))
        if slow_kind(text, change) == "high":
            rows.append(slow_span(*change))
        anchor = turning_end(text, change)
        if anchor is not None:
            spans = [slow_span(anchor, point) for point in room]
            rows += [s for s in spans if all(signs[point] == "1" for point in inside(s))]
    return outer(rows)


def slow_barred(text, listed):
    """Whether a needed cube grows over an off point."""
    return any(has_off(text, slow_growths(text, listed, cube)[0][0]) for cube in slow_needed(text, listed))


def some_demands(n, many, seed, most=5):
    """Pairs of the text of a table and a list of up to so many plain changes of it; every other one turns widely."""
    source = sample(seed)
    rows = []
    while len(rows) < many:
        wide = len(rows) % 2
        ons = set().union(*[inside(source.choice(cubes(n))) for _ in range(source.randint(1, 4))])
        frees = set() if wide else {source.choice(points(n)) for _ in range(source.choice([0, 0, 1, 2, 4]))}
        text = "".join("-" if p in frees else "1" if p in ons else "0" for p in points(n))
        pairs = changes(n) if n <= 3 else source.sample(changes(n), 60)
        plain = [change for change in pairs if slow_kind(text, change) not in ("free", "uneven")]
        turning = [change for change in plain if turning_end(text, change)]
        broad = [change for change in turning if slow_span(*change).count("-") > 1]
        pool = broad if wide and broad else turning * 2 + plain
        rows.append((text, [source.choice(pool) for _ in range(source.randint(0, most))] if pool else []))
    return rows


def barred_demands(n, many, seed):
    """Like some_demands, but those alone for which there is no cover; n is at least 3."""
    rows = []
    while len(rows) < many:
        seed += 100
        rows += [row for row in some_demands(n, 50, seed, 8) if slow_barred(*row)]
    return rows[:many]


def alternating(first, many):
    """The word with this first sign and so many signs."""
    return ("01" if first == "0" else "10") * (many // 2) + (first if many % 2 else "")


def words(most):
    """All words of at most so many signs, shorter ones first."""
    return [alternating(first, many) for many in range(1, most + 1) for first in "01"]


def slow_combined(head, v, w):
    """The word of an and or an or of two words, by the words of [61]."""
    strong, weak = ("1", "0") if head == "or" else ("0", "1")
    if strong in (v, w):
        return strong
    many = v.count(weak) + w.count(weak) - 1
    first = strong if strong in (v[0], w[0]) else weak
    last = strong if strong in (v[-1], w[-1]) else weak
    size = 2 * many + 1 - (first == weak) - (last == weak)
    word = alternating(first, size)
    assert (word.count(weak), word[0], word[-1]) == (many, first, last)
    return word


def exchanged(word):
    return "".join({"0": "1", "1": "0"}.get(sign, sign) for sign in word)


def is_cut(word, whole):
    """Whether a word is a cut of another one, by the words of [62]."""
    return word[0] == whole[0] and word[-1] == whole[-1] and len(word) <= len(whole)


def nots(deep, leaf=("in", 0)):
    """A tree of nots alone that is so deep."""
    return nest(deep - 1, lambda tree: ("not", tree), leaf)


def parts_in(tree):
    """The parts of a node of a tree."""
    return {"not": tree[1:], "and": tree[-1], "or": tree[-1]}.get(tree[0], ())


def all_nodes(tree, path=()):
    """Pairs of the path and the node, a node before its parts."""
    rows = [(path, tree)]
    for at, part in enumerate(parts_in(tree)):
        rows += all_nodes(part, path + (at,))
    return rows


def leaves_in(tree):
    return [(path, node) for path, node in all_nodes(tree) if not parts_in(node)]


def levels(tree):
    return 1 + max(len(path) for path, _ in all_nodes(tree))


def node_form(thing, n):
    """What a node is by its own form: "leaf", "not", "gate" or None, by the words of [64]."""
    if not isinstance(thing, tuple) or len(thing) == 0 or not isinstance(thing[0], str):
        return None
    if thing in (("one",), ("zero",)):
        return "leaf"
    if len(thing) != 2:
        return None
    if thing[0] == "in":
        return "leaf" if is_int(thing[1]) and thing[1] in range(n) else None
    if thing[0] == "not":
        return "not"
    return "gate" if thing[0] in ("and", "or") and isinstance(thing[1], tuple) and thing[1] else None


def first_wrong(thing, n, path=(), counted=None):
    """The path of the first wrong node, or None, by the words of [64]."""
    counted = [] if counted is None else counted
    form = node_form(thing, n)
    if form is None or len(path) > 7 or (form == "leaf" and len(counted) == 240):
        return path
    if form == "leaf":
        counted.append(path)
    for at, part in enumerate(() if form == "leaf" else thing[1:] if form == "not" else thing[1]):
        wrong = first_wrong(part, n, path + (at,), counted)
        if wrong is not None:
            return wrong
    return None


def tree_value(point, tree):
    """Whether a tree is 1 at a point, by the words of [65]."""
    head = tree[0]
    if head == "in":
        return point[tree[1]] == "1"
    if head in ("one", "zero"):
        return head == "one"
    values = [tree_value(point, part) for part in parts_in(tree)]
    return not values[0] if head == "not" else all(values) if head == "and" else any(values)


def leaf_signs(change, leaf):
    """The word of a leaf, by the words of [67]."""
    first, last = [str(int(tree_value(end, leaf))) for end in change]
    return first if first == last else first + last


def slow_longest_of(change, tree):
    """The longest word of a tree, by the words of [69]."""
    found = [slow_longest_of(change, part) for part in parts_in(tree)]
    if not found:
        return leaf_signs(change, tree)
    if tree[0] == "not":
        return exchanged(found[0])
    return functools.reduce(lambda v, w: slow_combined(tree[0], v, w), found)


def gate_word(head, rows, weave):
    """The word of a gate whose parts have these words, by the words of [67]."""
    word = ""
    for k in range(len(weave) + 1):
        signs = [row[weave[:k].count(at)] for at, row in enumerate(rows)]
        sign = min(signs) if head == "and" else max(signs)
        word += sign if word[-1:] != sign else ""
    return word


def weaves(counts):
    """All tuples in which the number at occurs counts[at] times."""
    if not any(counts):
        return [()]
    rows = []
    for at, many in enumerate(counts):
        if many:
            rest = [count - (k == at) for k, count in enumerate(counts)]
            rows += [(at,) + row for row in weaves(rest)]
    return rows


def all_plays(change, tree):
    """Pairs of each play of a tree and its word, by the words of [67]."""
    if tree[0] == "not":
        return [(play, exchanged(word)) for play, word in all_plays(change, tree[1])]
    if not parts_in(tree):
        return [((), leaf_signs(change, tree))]
    pairs = []
    for row in itertools.product(*[all_plays(change, part) for part in tree[1]]):
        plays = tuple(play for play, _ in row)
        found = [word for _, word in row]
        pairs += [((w, plays), gate_word(tree[0], found, w)) for w in weaves([len(word) - 1 for word in found])]
    return pairs


def slow_text(tree):
    """The text of a tree, by the words of [210]."""
    if tree[0] == "in":
        return "x" + "01234"[tree[1]]
    if tree[0] in ("one", "zero"):
        return "1" if tree[0] == "one" else "0"
    if tree[0] == "not":
        return "!" + slow_text(tree[1])
    return ("&(" if tree[0] == "and" else "|(") + ",".join(slow_text(part) for part in tree[1]) + ")"


NAMES = ("a", "b2", "c")


def subsets(names):
    """All parts of a row of names but the empty one, as tuples in their order."""
    return [part for many in range(1, len(names) + 1) for part in itertools.combinations(names, many)]


def random_machine(source, most_states=4, arcs=None):
    """A sound machine by chance: each state has its values, and arcs lead from values to values."""
    inputs, outputs = NAMES[:source.randint(1, 3)], ("x", "y", "z")[:source.randint(0, 3)]
    values = {s: [{n for n in names if source.randrange(2)} for names in (inputs, outputs)] for s in range(8)}
    values[0] = [set(), set()]
    states = source.sample(range(1, 8), source.randint(0, most_states - 1)) + [0]
    rows = []
    for _ in range(source.randint(0, 10) if arcs is None else arcs):
        state, after = source.choice(states), source.choice(states)
        burst, flips = [sorted(a ^ b) for a, b in zip(values[state], values[after])]
        bursts = [set(other) for own, other, _, _ in rows if own == state]
        if burst and not any(set(burst) <= other or other <= set(burst) for other in bursts):
            source.shuffle(burst)
            rows.append((state, burst, flips, after))
    return Machine(inputs, outputs, rows)


def some_machines(many, seed, most_states=4):
    """Sound machines; the first ones have few arcs."""
    source = sample(seed)
    follower = [(0, ["a"], ["x"], 1), (1, ["a"], ["x"], 0)]
    join = [(0, NAMES, ["x"], 1), (1, NAMES, ["x"], 0)]
    rows = [Machine(["a"], [], []), Machine(["a"], ["x"], follower), Machine(NAMES, ["x"], join),
            Machine(["a"], ["x"], [(3, ["a"], [], 2)])]
    while len(rows) < many:
        # Most machines by chance have few states that are reached.
        machine = random_machine(source, most_states, 14)
        if len(reached(machine)) > source.randint(0, 4):
            rows.append(machine)
    return rows[:many]


def reached(machine):
    """The reached states of a machine in the order in which they are met."""
    states = [0]
    for state in states:
        states += dict.fromkeys(arc[3] for arc in machine.arcs if arc[0] == state and arc[3] not in states)
    return states


def signs_of_set(names, some):
    return "".join("1" if name in some else "0" for name in names)


def slow_entries(machine):
    """A dict from each reached state to the set of all values with which it can be entered."""
    nothing = (frozenset(), frozenset())
    found, waiting = {0: {nothing}}, [(0, nothing)]
    while waiting:
        state, (ins, outs) = waiting.pop()
        for own, burst, flips, after in machine.arcs:
            values = (ins ^ set(burst), outs ^ set(flips))
            if own == state and values not in found.setdefault(after, set()):
                found[after].add(values)
                waiting.append((after, values))
    return found


def random_tree(n, source, leaves, deep):
    """A tree with about so many leaves, at most so deep."""
    if leaves <= 1 or deep <= 1:
        leaf = source.choice([("one",), ("zero",)] + [("in", source.randrange(n)) for _ in range(12)])
        return ("not", leaf) if deep > 1 and source.randrange(3) == 0 else leaf
    if source.randrange(5) == 0:
        return ("not", random_tree(n, source, leaves, deep - 1))
    many = source.choice([1, 2, 2, 2, 3, 3, 4]) if leaves < 40 else source.randint(2, 9)
    cuts = sorted(source.randint(0, leaves) for _ in range(many - 1))
    shares = [b - a for a, b in zip([0] + cuts, cuts + [leaves])]
    return (source.choice(["and", "or"]), tuple(random_tree(n, source, share, deep - 1) for share in shares))


def some_trees(n, many, seed, leaves=8, deep=8):
    """Trees of n inputs; the first ones are leaves and small gates."""
    source = sample(1000 * seed + n)
    x = ("in", n - 1)
    rows = [("in", 0), x, ("one",), ("zero",), ("not", x), ("and", (x,)), ("or", (x,)), ("or", (x, ("not", x)))]
    while len(rows) < many:
        rows.append(random_tree(n, source, source.randint(1, leaves), source.randint(1, deep)))
    return rows[:many]


def wrong_trees(n):
    """Pairs of a value that is no tree of n inputs and the path of its first wrong node."""
    x, one = ("in", 0), ("one",)
    rows = [
        ((), ()), (("in",), ()), (("in", 0, 0), ()), (("in", n), ()), (("in", -1), ()), (("in", 5), ()),
        (("in", True), ()), (("in", False), ()), (("in", 0.0), ()), (("in", "0"), ()), (("in", None), ()),
        (("in", (0,)), ()), (["in", 0], ()), (("In", 0), ()), (("x", 0), ()), (("one", 0), ()), (("zero", ()), ()),
        (("one", "one"), ()), (("one", one), ()), (["one"], ()), ("one", ()), (("zeros",), ()), (("not",), ()),
        (("not", x, x), ()), (["not", x], ()), (("and",), ()), (("and", ()), ()), (("or", ()), ()),
        (("and", [x]), ()), (("or", [x, x]), ()), (("and", x, x), ()), (("or", {0: x}), ()), (("and", None), ()),
        (("xor", (x, x)), ()), ((b"and", (x,)), ()), ((0, (x,)), ()), ((("in",), 0), ()), (("and", (x,), ()), ()),
        (("and", x), (0,)), (("or", ("one",)), (0,)), (("not", None), (0,)), (("not", ("in", n)), (0,)),
        (("not", (x,)), (0,)), (("or", (x, None)), (1,)), (("and", (x, [])), (1,)), (("or", (None, None)), (0,)),
        (("and", (x, one, ("or", ()), None)), (2,)), (("and", (("not", None), None)), (0, 0)),
        (("and", (("or", (x, ("in", n))), ("or", ()))), (0, 1)), (("and", (("or", [None]), None)), (0,)),
        (("or", (one, ("not", ("and", (x, x, ("in", -1)))), ())), (1, 0, 2)),
        (nots(9), (0,) * 8), (nots(9, one), (0,) * 8), (nots(9, None), (0,) * 8), (nots(8, None), (0,) * 7),
        (nots(30), (0,) * 8), (("or", (x, nots(8))), (1,) + (0,) * 7), (("or", (nots(8), None)), (0,) * 8),
        (("and", (nots(7), x, nots(8, one))), (2,) + (0,) * 7), (("or", (nots(7), None, nots(8))), (1,)),
        (nest(8, lambda t: ("and", (x, t)), one), (1,) * 7 + (0,)), (nest(8, lambda t: ("or", (t,)), x), (0,) * 8),
        (("or", (x,) * 241), (240,)), (("or", (x,) * 240 + (None,)), (240,)),
        (("or", (x,) * 240 + (("not", x),)), (240, 0)),
        (("or", (x,) * 239 + (None, x)), (239,)), (("and", (("or", (x,) * 120), ("or", (one,) * 121))), (1, 120)),
        (("and", (("or", (x,) * 239), ("or", (x,) * 2))), (1, 1)), (("and", (("not", one),) * 241), (240, 0)),
        (("and", (("or", (x,) * 240), ("or", ()))), (1,)), (("and", (("or", (x,) * 240), ("or", (x,)))), (1, 0)),
        (("and", (("or", (x,) * 240), ("not", ("not", ("zero",))))), (1, 0, 0)), (("or", (x,) * 1000), (240,)),
        (nest(7, lambda t: ("and", (t, t, t)), x), (0, 0, 2, 2, 2, 2, 0)),
    ]
    rows += [(thing, ()) for thing in anything()]
    for thing in anything(30):
        rows += [(("not", thing), (0,)), (("or", (x, ("and", (one, thing)), thing)), (1, 1)), ((thing, (x,)), ()),
                 (("in", thing), None if is_int(thing) and thing in range(n) else ()), (("and", thing), None),
                 (("or", (thing, x)), (0,))]
    # What a few of these values are is told by the words of the document.
    told = [(thing, first_wrong(thing, n) if path is None else path) for thing, path in rows]
    return [(thing, path) for thing, path in told if path is not None]


def nest(deep, wrap, thing=0):
    for _ in range(deep):
        thing = wrap(thing)
    return thing


def anything(deep=40):
    """Values of all kinds that Python has built in, nested at most so deep, and some of the program."""
    plain = [
        None, True, False, 0, 1, 2, 5, 6, -1, 10 ** 40, -(10 ** 40), 0.0, 1.0, 2.0, 1.5, -0.5,
        float("inf"), float("nan"), 1j, "", " ", "x", "\n", "-", "0", "1", "2", "01x", "0 1", "00\n", "0" * 6,
        "-" * 6, "01-" * 50, b"", b"0", b"01", bytearray(b"01"), memoryview(b"01"), range(0), range(2),
        slice(0, 1), ..., NotImplemented, object(), object, int, str, type, len, print, ValueError, ValueError("00"),
        zip(), iter([]), iter("01"), (s for s in "01"), reversed("01"), enumerate("01"), map(str, [0]),
        filter(None, []), lambda: "01", str.join, "01".join, property(), staticmethod(len), super, itertools,
    ]
    boxes = [
        [], (), {}, set(), frozenset(), [[]], ((),), [()], ([],), [None], (None,), ["x"], ("x",), ["0"], ("0",), [0],
        (0,), ["0", "1"], ("0", "1"), {"0": "1"}, {"0"}, frozenset("01"), {0: 0, 1: 1}, [True], (1.0,), (0, 0), [0, 0],
        ("00", "11"), ["00", "11"], ("00", "11", "11"), ("00", []), ("0", 1), (b"0", b"1"), ("0", "x"), ("", ""),
        ("0", ["1"]), (["0"], "1"), ["-"] * 100, ["-"] * 101, list("01") * 40, {"a": [{"b": ({1},)}]},
    ]
    towers = [nest(deep, lambda x: [x]), nest(deep, lambda x: (x,)), nest(deep, lambda x: {"a": x}),
              nest(min(deep // 2, 12), lambda x: (x, [x]))]
    own = [Table("01"), Table("0110"), ShopError(), ShopError, Table, InvalidCube(0), NothingLeft("cover"), Table.value,
           Demand(Table("0111")), Demand(Table("0111"), [("00", "11")]), Demand, Word("0"), Word("1010"), Word,
           Machine(["a"], ["z"], [(0, ["a"], ["z"], 1)]), Machine(["a"], [], []), Machine,
           Net(Machine(["a"], [], []), [""], []), Net, Board(Net(Machine(["a"], [], []), [""], [])), Board,
           Web([Machine(["a"], [], [])]), Web, Desk(Machine(["a"], ["z"], [])), Desk]
    return plain + boxes + towers + own


def is_int(thing):
    return isinstance(thing, int) and not isinstance(thing, bool)


def names(thing):
    """What a failing test shows of a value."""
    return f"{type(thing).__name__}: {str(thing)[:60]!r}"


class Case(unittest.TestCase):
    """A test case with the checks that the promises of the overview ask for."""

    def refuses(self, error, told, function, *args, **named):
        """The call raises just this error, with these attributes."""
        try:
            answer = function(*args, **named)
        except ShopError as raised:
            self.assertIs(type(raised), error, f"{raised!r}")
            for name, value in told.items():
                own = getattr(raised, name)
                self.assertEqual(own, value)
                self.assertIs(type(own), type(value))
        else:
            self.fail(f"no {error.__name__}, but {names(answer)}")

    def says(self, flag, answer):
        """The answer is this flag, and no other value that counts like it."""
        self.assertIs(answer, flag)

    def is_new(self, function, *args, **named):
        """The call returns a new list each time, and changes nothing that it is given."""
        kept = copy.deepcopy((args, named))
        first = function(*args, **named)
        self.assertIs(type(first), list)
        before = copy.deepcopy(first)
        first.append("more")
        for item in first:
            if isinstance(item, list):
                item.append("more")
        second = function(*args, **named)
        self.assertIsNot(first, second)
        self.assertEqual(second, before)
        self.assertEqual((args, named), kept)

    def stands_in(self, module, names_of):
        """The names are defined in the module, not imported into it."""
        for name in names_of:
            self.assertEqual(getattr(module, name).__module__, module.__name__, name)
