"""burstshop.trees: promises [63] to [71], and [2] to [4] there."""

import copy
import itertools
import unittest

from burstshop import trees as module
from burstshop.covers import longest
from burstshop.errors import InvalidChange, InvalidCover, InvalidCube, InvalidPlay, InvalidPoint, InvalidTree
from burstshop.errors import LimitExceeded
from burstshop.trees import (at_point, calm_tree, flicker_play, is_play, is_tree, longest_of, longest_play, measure,
                             settled, tree_of, word_of_play)
from tests.helper import (SIZES, Case, all_plays, anything, changes, cubes, first_wrong, gate_word, inside, is_cut,
                          leaf_signs, leaves_in, levels, names, nest, nots, parts_in, points, sample, slow_is_cover,
                          slow_longest_of, slow_span, some_trees, too_long, tree_value, weaves, wrong_trees)

X, Y, ONE, ZERO = ("in", 0), ("in", 1), ("one",), ("zero",)
ON_A_CHANGE = {"longest_of": longest_of, "longest_play": longest_play, "calm_tree": calm_tree,
               "flicker_play": flicker_play}
# Trees at the bounds, of one input.
LARGE = {
    "240 parts": ("or", (X,) * 240), "240 nots": ("and", (("not", X),) * 240), "8 nots": nots(8),
    "8 gates": nest(7, lambda t: ("or", (t,)), X), "120 twice": ("and", (("or", (X,) * 120), ("or", (ONE,) * 120))),
    "chain": nest(6, lambda t: ("and", (t, X)), ("not", X)),
    "both": ("or", (nest(6, lambda t: ("and", (t, t)), X),) * 3 + (X,) * 48),
}


def slow_settled(cube, tree):
    """The words of [66]."""
    head = tree[0]
    if head == "in":
        return cube[tree[1]]
    if head in ("one", "zero"):
        return {"one": "1", "zero": "0"}[head]
    signs = [slow_settled(cube, part) for part in parts_in(tree)]
    if head == "not":
        return {"0": "1", "1": "0", "-": "-"}[signs[0]]
    strong, weak = ("0", "1") if head == "and" else ("1", "0")
    if strong in signs:
        return strong
    return weak if all(sign == weak for sign in signs) else "-"


def slow_tree_of(cover):
    """The words of [71]."""
    trees = []
    for product in cover:
        own = [("in", i) if sign == "1" else ("not", ("in", i)) for i, sign in enumerate(product) if sign in "01"]
        trees.append(own[0] if len(own) == 1 else ("and", tuple(own)) if own else ("one",))
    return trees[0] if len(trees) == 1 else ("or", tuple(trees)) if trees else ("zero",)


def wrong_play(change, tree, play, path=()):
    """The path of the first node whose play is wrong, or None, by the words of [67] and [68]."""
    if tree[0] == "not":
        return wrong_play(change, tree[1], play, path + (0,))
    if not parts_in(tree):
        return None if isinstance(play, tuple) and len(play) == 0 else path
    if not (isinstance(play, tuple) and len(play) == 2 and all(isinstance(item, tuple) for item in play)):
        return path
    weave, plays = play
    if len(plays) != len(tree[1]):
        return path
    for at, part in enumerate(tree[1]):
        wrong = wrong_play(change, part, plays[at], path + (at,))
        if wrong is not None:
            return wrong
    turns = [len(slow_word(change, part, plays[at])) - 1 for at, part in enumerate(tree[1])]
    if any(type(item) is not int or item not in range(len(turns)) for item in weave):
        return path
    return None if [weave.count(at) for at in range(len(turns))] == turns else path


def slow_word(change, tree, play):
    """The word of a play that fits, by the words of [67]."""
    if tree[0] == "not":
        return "".join("10"[int(sign)] for sign in slow_word(change, tree[1], play))
    if not parts_in(tree):
        return leaf_signs(change, tree)
    return gate_word(tree[0], [slow_word(change, part, own) for part, own in zip(tree[1], play[1])], play[0])


def some_play(change, tree, source):
    """A play of a tree, by chance."""
    if tree[0] == "not":
        return some_play(change, tree[1], source)
    if not parts_in(tree):
        return ()
    plays = tuple(some_play(change, part, source) for part in tree[1])
    weave = []
    for at, part in enumerate(tree[1]):
        weave += [at] * (len(slow_word(change, part, plays[at])) - 1)
    source.shuffle(weave)
    return (tuple(weave), plays)


def plays_near(play):
    """Values that differ from a play a little: they lack something, or have another value or kind somewhere."""
    rows = [None, (), [], ((),), (play,), [*play], play + ((),), play[:-1]]
    for at, item in enumerate(play):
        if isinstance(item, tuple):
            others = plays_near(item)
        else:
            others = [item + 1, item - 1, bool(item), float(item), str(item), (item,), None, -item, (), item + 100]
        rows += [play[:at] + (other,) + play[at + 1:] for other in others]
        rows += [play[:at] + play[at + 1:], play[:at] + (item,) + play[at:]]
    return rows


def told_exactly(play):
    """A play as a text, in which 1, True and 1.0 differ, and tuples and lists."""
    return repr(play)


def some_cases(many, leaves, deep, seed, sizes=SIZES):
    """Triples of a size, a change and a tree."""
    rows = []
    for n in sizes:
        source = sample(100 * seed + n)
        rows += [(n, source.choice(changes(n)), tree) for tree in some_trees(n, many, seed, leaves, deep)]
    return rows


class Trees(Case):
    def test_the_interface(self):
        self.stands_in(module, ["is_tree", "measure", "at_point", "settled", "is_play", "word_of_play", "longest_of",
                                "longest_play", "calm_tree", "flicker_play", "tree_of"])

    def test_is_tree(self):
        for n in SIZES:
            for tree in some_trees(n, 120, 1, 30) + list(LARGE.values()):
                self.says(True, is_tree(tree, n))
            for m in SIZES:
                for i in range(-1, 7):
                    self.says(0 <= i < m, is_tree(("in", i), m))
                    self.says(0 <= i < m, is_tree(("or", (X, ("not", ("in", i)))), m))
            for thing in anything():
                with self.subTest(thing=names(thing)):
                    self.says(first_wrong(thing, n) is None, is_tree(thing, n))
        self.says(True, is_tree(n=1, thing=X))

    def test_what_is_no_tree(self):
        for n in SIZES:
            for thing, path in wrong_trees(n):
                with self.subTest(n=n, thing=names(thing)):
                    self.says(False, is_tree(thing, n))
                    change, point = ("0" * n, "1" * n), "0" * n
                    self.refuses(InvalidTree, {"path": path}, at_point, point, thing)
                    self.refuses(InvalidTree, {"path": path}, settled, "-" * n, thing)
                    for function in ON_A_CHANGE.values():
                        self.refuses(InvalidTree, {"path": path}, function, change, thing)
                    self.refuses(InvalidTree, {"path": path}, word_of_play, change, thing, ())
                    self.refuses(InvalidTree, {"path": path}, is_play, change, thing, None)
                    if n == 5:
                        self.refuses(InvalidTree, {"path": path}, measure, thing)

    def test_trees_at_the_bounds(self):
        told = {"240 parts": (240, 2), "240 nots": (240, 3), "8 nots": (1, 8), "8 gates": (1, 8),
                "120 twice": (240, 3), "chain": (7, 8), "both": (240, 8)}
        for name, tree in LARGE.items():
            self.says(True, is_tree(tree, 1))
            self.assertEqual(measure(tree), told[name], name)
            self.assertEqual([at_point("0", tree), at_point("1", tree)], [tree_value(p, tree) for p in ("0", "1")])
            for cube in cubes(1):
                self.assertEqual(settled(cube, tree), slow_settled(cube, tree))
            for change in changes(1):
                self.assertEqual(longest_of(change, tree), slow_longest_of(change, tree))
                play = longest_play(change, tree)
                self.says(True, is_play(change, tree, play))
                self.assertEqual(word_of_play(change, tree, play), slow_longest_of(change, tree))

    def test_trees_past_the_bounds(self):
        for tree, path in ((("or", (X,) * 241), (240,)),
                           (("and", (("or", (X,) * 120), ("or", (ONE,) * 121))), (1, 120)),
                           (nots(9), (0,) * 8), (nest(8, lambda t: ("or", (t,)), X), (0,) * 8)):
            self.says(False, is_tree(tree, 5))
            self.refuses(InvalidTree, {"path": path}, measure, tree)
        # What is wrong further left or further up comes first.
        self.refuses(InvalidTree, {"path": (0,)}, measure, ("or", (None,) + (X,) * 240))
        self.refuses(InvalidTree, {"path": (0,) * 8}, measure, ("or", (nots(8),) + (X,) * 240))
        self.refuses(InvalidTree, {"path": (240,)}, measure, ("or", (X,) * 241 + (None,)))
        self.refuses(InvalidTree, {"path": (240, 0, 0, 0)}, measure, ("or", (X,) * 240 + (nots(4),)))

    def test_trees_that_share_their_parts(self):
        wide = nest(7, lambda t: ("and", (t,) * 3), X)
        self.refuses(InvalidTree, {"path": (0, 0, 2, 2, 2, 2, 0)}, measure, wide)
        huge = nest(39, lambda t: ("and", (t, t)), X)
        self.refuses(InvalidTree, {"path": (0,) * 8}, measure, huge)
        self.assertEqual(measure(nest(7, lambda t: ("and", (t, t)), X)), (128, 8))

    def test_measure(self):
        for n in SIZES:
            for tree in some_trees(n, 150, 2, 40):
                self.assertEqual(measure(tree), (len(leaves_in(tree)), levels(tree)))
        self.assertEqual([measure(X), measure(ONE), measure(("not", ZERO)), measure(("and", (X, X)))],
                         [(1, 1), (1, 1), (1, 2), (2, 2)])
        self.assertEqual(measure(tree=("in", 4)), (1, 1))
        self.assertEqual(measure(("or", (nots(3), X))), (2, 4))
        self.refuses(InvalidTree, {"path": ()}, measure, ("in", 5))

    def test_at_point(self):
        for n in SIZES:
            for tree in some_trees(n, 100, 3, 20):
                for point in points(n):
                    self.says(tree_value(point, tree), at_point(point, tree))
        self.says(True, at_point(tree=("not", Y), point="10"))
        self.says(False, at_point("10", ("and", (X, Y))))

    def test_at_point_of_what_is_no_point(self):
        for thing in anything() + ["", "0-", "000000", "02", ["0"], ("1",), b"1", 1, True]:
            if isinstance(thing, str) and 1 <= len(thing) <= 5 and set(thing) <= set("01"):
                continue
            with self.subTest(thing=names(thing)):
                self.refuses(InvalidPoint, {"at": 0}, at_point, thing, ONE)
                self.refuses(InvalidPoint, {"at": 0}, at_point, thing, None)

    def test_settled(self):
        for n in SIZES:
            for tree in some_trees(n, 60, 4, 12):
                for cube in cubes(n) if n < 5 else sample(n).sample(cubes(n), 60):
                    sign = settled(cube, tree)
                    self.assertEqual(sign, slow_settled(cube, tree))
                    if sign != "-":
                        self.assertEqual({tree_value(p, tree) for p in inside(cube)}, {sign == "1"})
        self.assertEqual(settled(tree=("and", (X, Y)), cube="0-"), "0")
        # What is equal at all points of a cube can be open.
        self.assertEqual(settled("-", ("or", (X, ("not", X)))), "-")

    def test_settled_of_what_is_no_cube(self):
        for thing in anything() + ["", "000000", "------", "0x", "-2", ["-"], b"-", 0]:
            if isinstance(thing, str) and 1 <= len(thing) <= 5 and set(thing) <= set("01-"):
                continue
            with self.subTest(thing=names(thing)):
                self.refuses(InvalidCube, {"at": 0}, settled, thing, ONE)
                self.refuses(InvalidCube, {"at": 0}, settled, thing, None)

    def test_the_example_of_the_document(self):
        tree = ("or", (("in", 0), ("not", ("in", 1))))
        self.assertEqual(
            [word_of_play(("00", "11"), tree, ((0, 1), ((), ()))), word_of_play(("00", "11"), tree, ((1, 0), ((), ()))),
             settled("1-", tree), settled("0-", tree)], ["1", "101", "1", "-"])

    def test_no_call_changes_what_it_is_given(self):
        tree, change = ("or", (X, ("and", (Y, ("not", X))))), ("00", "11")
        play = longest_play(change, tree)
        cover = ["1-", "01"]
        kept = copy.deepcopy((tree, change, play, cover))
        for call in (lambda: measure(tree), lambda: at_point("01", tree), lambda: settled("0-", tree),
                     lambda: is_play(change, tree, play), lambda: word_of_play(change, tree, play),
                     lambda: longest_of(change, tree), lambda: flicker_play(change, tree), lambda: tree_of(2, cover)):
            self.assertEqual(call(), call())
            self.assertEqual((tree, change, play, cover), kept)


class Plays(Case):
    def test_plays_of_leaves(self):
        for n in SIZES:
            for change in sample(n).sample(changes(n), min(20, len(changes(n)))):
                for leaf in [("in", i) for i in range(n)] + [ONE, ZERO]:
                    self.says(True, is_play(change, leaf, ()))
                    self.assertEqual(word_of_play(change, leaf, ()), leaf_signs(change, leaf))
        self.assertEqual([word_of_play(("0", "1"), leaf, ()) for leaf in (X, ONE, ZERO)], ["01", "1", "0"])
        self.assertEqual([word_of_play(("10", "00"), leaf, ()) for leaf in (X, Y)], ["10", "0"])
        for thing in anything():
            with self.subTest(thing=names(thing)):
                for leaf in (X, Y, ONE, ZERO):
                    self.check_play(("00", "10"), leaf, thing)

    def test_plays_of_nots(self):
        change = ("00", "10")
        for deep in range(1, 9):
            tree = nots(deep)
            self.assertEqual(word_of_play(change, tree, ()), "01" if deep % 2 else "10")
            # A not has no form of its own: the leaf below it is the node whose play is wrong.
            for thing in (None, [], ((),), ((), ()), 0, "", ((), ((),))):
                self.says(False, is_play(change, tree, thing))
                self.refuses(InvalidPlay, {"path": (0,) * (deep - 1)}, word_of_play, change, tree, thing)
        gate = ("not", ("not", ("or", (X, ("not", Y)))))
        self.assertEqual(word_of_play(("00", "11"), gate, ((1, 0), ((), ()))), "101")
        self.refuses(InvalidPlay, {"path": (0, 0)}, word_of_play, ("00", "11"), gate, ())
        self.refuses(InvalidPlay, {"path": (0, 0, 1, 0)}, word_of_play, ("00", "11"), gate, ((1, 0), ((), None)))

    def test_gates_of_one_part_and_gates_whose_parts_do_not_turn(self):
        change = ("00", "10")
        for head in ("and", "or"):
            self.assertEqual(word_of_play(change, (head, (X,)), ((0,), ((),))), "01")
            self.assertEqual(word_of_play(change, (head, (Y,)), ((), ((),))), "0")
            self.assertEqual(word_of_play(change, (head, (ONE, Y, ZERO)), ((), ((), (), ()))), "10"[head == "and"])
            self.says(False, is_play(change, (head, (X,)), ((), ((),))))
            self.says(False, is_play(change, (head, (X,)), ((0, 0), ((),))))
            self.says(False, is_play(change, (head, (Y,)), ((0,), ((),))))
            self.says(False, is_play(change, (head, (Y, X)), ((0,), ((), ()))))
            self.says(True, is_play(change, (head, (Y, X)), ((1,), ((), ()))))

    def test_the_order_of_what_is_looked_for(self):
        change = ("00", "11")
        tree = ("or", (("and", (X, Y)), ("not", ("or", (X, X)))))
        both = ((0, 1), ((), ()))
        told = [
            (((0, 1), (both, both)), None),
            (None, ()), (((0, 1),), ()), (((0, 1), (both, both), ()), ()), ([(0, 1), (both, both)], ()),
            (([0, 1], (both, both)), ()), (((0, 1), [both, both]), ()), (((0, 1), (both,)), ()),
            (((0, 1), (both, both, both)), ()), ((None, (None, None)), ()), ((0, (both, both)), ()),
            (((0, 1), (None, None)), (0,)), (((0, 1), (both, None)), (1, 0)), (((0,), (both, None)), (1, 0)),
            (((None,), (((0,), ((), None)), both)), (0, 1)), (((None,), (((0,), ((), ())), None)), (0,)),
            (((0, 1), (both, ((0, 1), ((), 0)))), (1, 0, 1)), (((0, 1), (both, ((0, 0), ((), ())))), (1, 0)),
            (((0, 0), (both, both)), ()), (((0, 1, 1), (both, both)), ()), (((0,), (both, both)), ()),
            (((), (both, both)), ()), (((False, True), (both, both)), ()), (((0, 1.0), (both, both)), ()),
            (((0, 2), (both, both)), ()), (((0, -1), (both, both)), ()), (((0, (1,)), (both, both)), ()),
            (((0, [1]), (both, both)), ()), (((0, None), (both, both)), ()), (((0, "1"), (both, both)), ()),
        ]
        for play, path in told:
            with self.subTest(play=play):
                self.says(path is None, is_play(change, tree, play))
                if path is None:
                    self.assertEqual(word_of_play(change, tree, play), slow_word(change, tree, play))
                else:
                    self.refuses(InvalidPlay, {"path": path}, word_of_play, change, tree, play)

    def check_play(self, change, tree, thing):
        path = wrong_play(change, tree, thing)
        self.says(path is None, is_play(change, tree, thing))
        if path is None:
            self.assertEqual(word_of_play(change, tree, thing), slow_word(change, tree, thing))
        else:
            self.refuses(InvalidPlay, {"path": path}, word_of_play, change, tree, thing)

    def test_all_plays_of_small_trees(self):
        for n, change, tree in some_cases(50, 4, 4, 1, (1, 2, 3)):
            pairs = all_plays(change, tree)
            known = {told_exactly(play): word for play, word in pairs}
            self.assertEqual(len(known), len(pairs))
            for play, word in pairs[:200]:
                self.says(True, is_play(change, tree, play))
                self.assertEqual(word_of_play(change, tree, play), word)
            for play, _ in pairs[:3] + pairs[-3:]:
                for thing in plays_near(play):
                    self.says(told_exactly(thing) in known, is_play(change, tree, thing))
                    self.check_play(change, tree, thing)

    def test_plays_of_larger_trees(self):
        source = sample(5)
        for n, change, tree in some_cases(25, 60, 8, 2):
            for _ in range(4):
                play = some_play(change, tree, source)
                self.check_play(change, tree, play)
                near = plays_near(play)
                for thing in source.sample(near, min(12, len(near))):
                    self.check_play(change, tree, thing)

    def test_what_is_no_play(self):
        trees = [X, ("not", X), ("and", (X, Y)), ("or", (X, ("not", ("and", (X, Y)))))]
        for thing in anything():
            for tree in trees:
                with self.subTest(thing=names(thing), tree=tree):
                    self.check_play(("00", "11"), tree, thing)
        for thing in anything(38):
            for play in ((thing, ((), ())), ((0, 1), (thing, ())), ((0, thing), ((), ())), ((0, 1), thing)):
                with self.subTest(play=names(play)):
                    self.check_play(("00", "11"), ("and", (X, Y)), play)
        self.says(True, is_play(thing=(), tree=X, change=("0", "1")))
        self.assertEqual(word_of_play(play=(), tree=X, change=("0", "1")), "01")

    def test_longest_of(self):
        for n, change, tree in some_cases(120, 40, 8, 3):
            self.assertEqual(longest_of(change, tree), slow_longest_of(change, tree))
        self.assertEqual(longest_of(tree=("or", (X, ("not", X))), change=("0", "1")), "101")

    def test_the_plays_have_cuts_of_the_longest_word(self):
        for n, change, tree in some_cases(60, 5, 4, 4, (1, 2, 3)):
            found = {word for _, word in all_plays(change, tree)}
            told = longest_of(change, tree)
            self.assertIn(told, found)
            for word in found:
                self.assertTrue(is_cut(word, told), (tree, word, told))
            self.says(all(not too_long(word) for word in found), calm_tree(change, tree))

    def test_the_words_of_larger_plays_are_cuts(self):
        source = sample(6)
        for n, change, tree in some_cases(25, 100, 8, 5):
            told = longest_of(change, tree)
            for _ in range(5):
                self.assertTrue(is_cut(word_of_play(change, tree, some_play(change, tree, source)), told))

    def test_longest_play(self):
        for n, change, tree in some_cases(100, 40, 8, 6):
            play = longest_play(change, tree)
            self.assertIsNone(wrong_play(change, tree, play))
            self.assertEqual(slow_word(change, tree, play), slow_longest_of(change, tree))
        self.assertEqual(longest_play(tree=("not", X), change=("0", "1")), ())

    def test_longest_play_of_gates_over_all_kinds_of_words(self):
        kinds = [ZERO, ONE, X, ("not", X), ("and", (X, ("not", X))), ("or", (X, ("not", X))),
                 ("or", (("and", (X, ("not", X))), X)), ("and", (("or", (X, ("not", X))), ("not", X)))]
        for many in (1, 2, 3):
            for parts in itertools.product(kinds, repeat=many):
                for head in ("and", "or"):
                    tree = (head, parts)
                    play = longest_play(("0", "1"), tree)
                    self.assertIsNone(wrong_play(("0", "1"), tree, play))
                    self.assertEqual(slow_word(("0", "1"), tree, play), slow_longest_of(("0", "1"), tree))

    def test_one_sign_exactly_where_it_is_settled(self):
        for n, change, tree in some_cases(150, 10, 6, 7):
            told = longest_of(change, tree)
            sign = settled(slow_span(*change), tree)
            self.assertEqual(len(told) == 1, sign != "-")
            if sign != "-":
                self.assertEqual(told, sign)

    def test_calm_and_flicker(self):
        seen = set()
        for n, change, tree in some_cases(150, 12, 6, 8):
            calm = not too_long(slow_longest_of(change, tree))
            seen.add(calm)
            self.says(calm, calm_tree(change, tree))
            play = flicker_play(change, tree)
            if calm:
                self.assertIsNone(play)
            else:
                self.assertIsNone(wrong_play(change, tree, play))
                self.assertTrue(too_long(slow_word(change, tree, play)))
        self.assertEqual(seen, {True, False})
        told = {X: True, ("or", (X, ("not", X))): False, ("and", (X, ("not", X))): False, ("or", (X, ONE)): True,
                ("or", (("and", (X, ("not", X))), X)): False}
        for tree, calm in told.items():
            self.says(calm, calm_tree(("0", "1"), tree))
            self.says(calm, flicker_play(("0", "1"), tree) is None)
        self.says(True, calm_tree(tree=X, change=("0", "1")))
        self.assertIsNone(flicker_play(tree=X, change=("0", "1")))

    def test_a_wrong_change_comes_first(self):
        wrong = [thing for thing in anything() if thing not in (("00", "11"), ("0", "1"))]
        wrong += [("0", "0"), ("0", "00"), ("", ""), ("000000", "111111"), ("0", "-"), ["0", "1"], ("0",),
                  ("0", "1", "0")]
        for thing in wrong:
            with self.subTest(thing=names(thing)):
                for tree in (ONE, None):
                    for function in ON_A_CHANGE.values():
                        self.refuses(InvalidChange, {"at": -1}, function, thing, tree)
                    self.refuses(InvalidChange, {"at": -1}, word_of_play, thing, tree, None)
                    self.refuses(InvalidChange, {"at": -1}, is_play, thing, tree, None)

    def test_weaves_are_counted_rightly(self):
        # The oracle of these tests itself.
        self.assertEqual(weaves([1, 1]), [(0, 1), (1, 0)])
        self.assertEqual(weaves([2, 0, 1]), [(0, 0, 2), (0, 2, 0), (2, 0, 0)])


class TreesOfCovers(Case):
    def some_covers(self, n, many):
        source = sample(n)
        rows = [[], [cubes(n)[0]], ["-" * n] * 2, ["1" + "-" * (n - 1)], ["0" * n], ["-" * n, "1" * n]]
        while len(rows) < many:
            rows.append([source.choice(cubes(n)) for _ in range(source.randint(0, 6))])
        return rows

    def test_tree_of(self):
        for n in SIZES:
            for cover in self.some_covers(n, 80):
                tree = tree_of(n, cover)
                self.assertEqual(tree, slow_tree_of(cover))
                self.assertEqual(tree_of(n, tuple(cover)), tree)
                self.says(True, is_tree(tree, n))
        self.assertEqual(tree_of(cover=["1"], n=1), X)

    def test_few_products_and_few_literals(self):
        told = {(): ZERO, ("--",): ONE, ("1-",): X, ("-0",): ("not", Y), ("10",): ("and", (X, ("not", Y))),
                ("--", "--"): ("or", (ONE, ONE)), ("1-", "01"): ("or", (X, ("and", (("not", X), Y)))),
                ("-1", "-1"): ("or", (Y, Y)), ("--", "0-"): ("or", (ONE, ("not", X)))}
        for cover, tree in told.items():
            self.assertEqual(tree_of(2, list(cover)), tree)
            self.assertEqual(tree_of(2, cover), tree)

    def test_its_longest_word_is_that_of_the_cover(self):
        for n in SIZES:
            for cover in self.some_covers(n, 40):
                tree = tree_of(n, cover)
                for change in changes(n) if n < 3 else sample(n).sample(changes(n), 20):
                    self.assertEqual(longest_of(change, tree), longest(change, cover))

    def test_240_leaves_and_more(self):
        for n, cover in ((5, ["01010"] * 48), (5, ["01010"] * 47 + ["1----", "0----"] + ["-----"] * 3),
                         (4, ["0000"] * 60),
                         (3, ["000"] * 80), (5, ["0000-"] * 45 + ["0----", "-----"] * 27), (2, ["00"] * 100)):
            tree = tree_of(n, cover)
            self.assertEqual(tree, slow_tree_of(cover))
            self.assertLessEqual(measure(tree)[0], 240)
            self.assertEqual(longest_of(("0" * n, "1" * n), tree), longest(("0" * n, "1" * n), cover))
        for n, cover in ((5, ["01010"] * 49), (5, ["01010"] * 48 + ["-----"]), (5, ["01010"] * 48 + ["----1"]),
                         (4, ["0000"] * 61), (3, ["000"] * 80 + ["---"]), (3, ["000"] * 100), (5, ["00000"] * 100),
                         (4, ["0000"] * 59 + ["0---", "----", "----", "----", "-1--"])):
            self.refuses(LimitExceeded, {"limit": 240}, tree_of, n, cover)
            self.refuses(LimitExceeded, {"limit": 240}, tree_of, n, tuple(cover))

    def test_wrong_arguments(self):
        for thing in anything() + [0, 6, -1, True, False, 1.0, "1", None]:
            if isinstance(thing, int) and not isinstance(thing, bool) and 1 <= thing <= 5:
                continue
            with self.subTest(thing=names(thing)):
                for cover in ([], ["0"], None, ["00000"] * 100):
                    self.refuses(LimitExceeded, {"limit": 5}, tree_of, thing, cover)
        for n in SIZES:
            for thing in anything():
                with self.subTest(n=n, thing=names(thing)):
                    if slow_is_cover(thing, n):
                        self.assertEqual(tree_of(n, thing), slow_tree_of(thing))
                    elif not isinstance(thing, (list, tuple)) or len(thing) > 100:
                        self.refuses(InvalidCover, {"at": -1}, tree_of, n, thing)
                    else:
                        at = [slow_is_cover([item], n) for item in thing].index(False)
                        self.refuses(InvalidCover, {"at": at}, tree_of, n, thing)
        self.refuses(InvalidCover, {"at": -1}, tree_of, 5, ["00000"] * 101)
        self.refuses(InvalidCover, {"at": 99}, tree_of, 5, ["00000"] * 99 + ["0000"])
        self.refuses(InvalidCover, {"at": 1}, tree_of, 2, ["00", "0", None])


if __name__ == "__main__":
    unittest.main()
