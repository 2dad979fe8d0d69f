"""burstshop.rules: promises [75] to [81], and [2] to [4] there."""

import copy
import functools
import itertools
import unittest

from burstshop import rules as module
from burstshop.errors import InvalidRule, InvalidTree, InvalidWord, LimitExceeded, NothingLeft
from burstshop.rules import broken_by, fitted, forms, leanest, letter_tree, need_rule, put_in, rewritten
from burstshop.trees import at_point, calm_tree, longest_of
from tests.helper import (Case, all_nodes, anything, changes, exchanged, first_wrong, is_int, leaves_in, levels, names,
                          nest, nots, parts_in, points, random_tree, sample, slow_combined, slow_text, some_trees,
                          too_long, tree_value, words, wrong_trees)

A, B, C, D, E = [("in", i) for i in range(5)]
ONE, ZERO = ("one",), ("zero",)
EIGHT = ("0", "1", "01", "10", "010", "101", "0101", "1010")


def land(*parts):
    return ("and", parts)


def lor(*parts):
    return ("or", parts)


def no(tree):
    return ("not", tree)


# Rules by whether they keep.
KEEPING = [
    (lor(land(A, B), land(A, C)), land(A, lor(B, C))), (A, A), (A, no(no(A))), (no(no(A)), A), (land(A, B), land(B, A)),
    (lor(A, land(no(A), B)), lor(A, B)), (no(land(A, B)), lor(no(A), no(B))), (lor(no(A), no(B)), no(land(A, B))),
    (land(A, land(B, C)), land(A, B, C)), (lor(A, B, C), lor(lor(A, B), C)), (land(A), A), (A, lor(A)), (lor(A, A), A),
    (land(A, ONE), A), (A, lor(ZERO, A)), (land(A, ZERO), ZERO), (ONE, no(ZERO)), (lor(A, ONE), ONE),
    (ZERO, land(ZERO, ONE)),
    (lor(A, land(A, B)), A), (land(A, lor(A, B)), A), (lor(A, no(A)), ONE), (land(A, no(A)), ZERO),
    (land(lor(A, B), lor(A, C)), lor(A, land(B, C))),
    (lor(land(A, B), land(no(A), C), land(B, C)), lor(land(B, C), land(B, A), land(C, no(A)))),
    (land(A, lor(B, no(B))), A), (A, land(A, lor(A, A))),
]
BREAKING = [
    (lor(land(A, B), land(no(A), C), land(B, C)), lor(land(A, B), land(no(A), C))), (A, no(A)), (A, ONE),
    (land(A, B), A),
    (lor(A, B), lor(A, land(no(A), B))), (ONE, ZERO), (ONE, lor(A, no(A))), (A, lor(A, land(A, no(A)))),
    (lor(A, B), land(A, B)),
    (ZERO, no(ZERO)), (A, land(A, lor(A, no(A)))), (lor(A, B, C, D, E), land(A, B, C, D, E)),
    (land(no(A), E), no(lor(A, no(C)))),
]
BREAKING = [rule for rule in BREAKING if {leaf for _, leaf in leaves_in(rule[1]) if leaf[0] == "in"}
            <= {leaf for _, leaf in leaves_in(rule[0])}]


def letters(tree):
    return sorted({leaf[1] for _, leaf in leaves_in(tree) if leaf[0] == "in"})


def wrong_rule(thing):
    """Which and path of InvalidRule, or None, by the words of [75]."""
    if not isinstance(thing, tuple) or len(thing) != 2:
        return (-1, ())
    for which in (0, 1):
        path = first_wrong(thing[which], 5)
        if path is not None:
            return (which, path)
    for path, leaf in leaves_in(thing[1]):
        if leaf[0] == "in" and leaf[1] not in letters(thing[0]):
            return (2, path)
    return None


def wrong_rules():
    """Pairs of a value that is no rule, and which and path of its error."""
    rows = [((A, B), (2, ())), ((A,), (-1, ())), ((A, A, A), (-1, ())), ([A, A], (-1, ())), ((), (-1, ())),
            (A, (0, ())),
            ((ONE, A), (2, ())), ((ONE, no(A)), (2, (0,))), ((lor(A, C), land(A, B, D)), (2, (1,))),
            ((None, None), (0, ())),
            ((A, None), (1, ())), ((None, A), (0, ())), ((A, ("in", 5)), (1, ())), ((A, ("in", True)), (1, ())),
            ((("in", False), A), (0, ())), ((lor(A, lor()), lor()), (0, (1,))), ((A, land(B, no(None))), (1, (1, 0))),
            ((lor(A, A), land(land(A, lor(A, no(E))), D)), (2, (0, 1, 1, 0))), ((nots(9), A), (0, (0,) * 8)),
            ((A, nots(9)), (1, (0,) * 8)), ((A, lor(*[A] * 241)), (1, (240,))), ((lor(*[A] * 241), A), (0, (240,))),
            ((A, lor(*[B] * 241)), (1, (240,))), ((A, lor(*[A] * 239, B)), (2, (239,))), (("and", (A, A)), (0, ())),
            ((B, lor(B, land(B, A), C)), (2, (1, 1)))]
    for thing, path in wrong_trees(5):
        rows += [((thing, A), (0, path)), ((A, thing), (1, path)), ((thing, thing), (0, path)),
                 ((no(B), thing), (1, path))]
    for thing in anything():
        rows.append((thing, wrong_rule(thing)))
    return rows


def random_rule(source, many, leaves=6):
    """A rule with letters below many, by chance; half of them have the same gates on both sides."""
    left = random_tree(many, source, source.randint(1, leaves), 4)
    known = [("in", i) for i in letters(left)] or [ONE]

    def other(tree):
        if tree[0] == "in":
            return tree if tree in known and source.randrange(4) else source.choice(known)
        return (tree[0],) if len(tree) == 1 else no(other(tree[1])) if tree[0] == "not" else (
            tree[0], tuple(other(part) for part in source.sample(tree[1], len(tree[1]))))
    return (left, other(left if source.randrange(2) else random_tree(many, source, source.randint(1, leaves), 4)))


combined = functools.cache(slow_combined)


def word_of(tree, given):
    """The word of a tree whose letters have the given words, by the words of [69]."""
    if tree[0] == "in":
        return given[tree[1]]
    if tree[0] in ("one", "zero"):
        return "1" if tree[0] == "one" else "0"
    found = [word_of(part, given) for part in parts_in(tree)]
    if tree[0] == "not":
        return exchanged(found[0])
    return functools.reduce(lambda v, w: combined(tree[0], v, w), found)


def shows(rule, given):
    """Whether words of the letters show that a rule does not keep, by the words of [77]."""
    left, right = [word_of(side, given) for side in rule]
    return (not too_long(left) and too_long(right)) or left[0] != right[0] or left[-1] != right[-1]


def slow_broken_by(rule, choice=EIGHT):
    own = letters(rule[0])
    for row in itertools.product(choice, repeat=len(own)):
        if shows(rule, dict(zip(own, row))):
            return list(zip(own, row))
    return None


def slow_put_in(tree, trees):
    """The words of [76]."""
    if tree[0] == "in":
        return trees[tree[1]]
    if tree[0] == "not":
        return no(slow_put_in(tree[1], trees))
    return (tree[0], tuple(slow_put_in(part, trees) for part in tree[1])) if len(tree) == 2 else tree


def slow_fit(left, node):
    """What fitted returns for a node, by the words of [79]."""
    pairs = []

    def look(pattern, part):
        if pattern[0] == "in":
            pairs.append((pattern[1], part))
            return True
        own, theirs = parts_in(pattern), parts_in(part)
        return pattern[0] == part[0] and len(own) == len(theirs) and all(look(p, q) for p, q in zip(own, theirs))
    if not look(left, node) or any(a == b and p != q for a, p in pairs for b, q in pairs):
        return None
    return dict(pairs)


def slow_rewrite(tree, path, rule):
    """The tree in which the node at the path is replaced, or None, whatever its size is."""
    node = dict(all_nodes(tree))[path]
    trees = slow_fit(rule[0], node)
    return None if trees is None else put_at(tree, path, slow_put_in(rule[1], trees))


def put_at(tree, path, new):
    if not path:
        return new
    if tree[0] == "not":
        return no(put_at(tree[1], path[1:], new))
    return (tree[0], tuple(put_at(part, path[1:], new) if at == path[0] else part for at, part in enumerate(tree[1])))


def is_small(tree):
    return len(leaves_in(tree)) <= 240 and levels(tree) <= 8


def slow_forms(tree, rules, most=200):
    """The words of [81]; None if there are more than so many."""
    known, waiting = {slow_text(tree): tree}, [tree]
    while waiting:
        form = waiting.pop()
        for path, _ in all_nodes(form):
            for rule in rules:
                other = slow_rewrite(form, path, rule)
                if other is not None and is_small(other) and slow_text(other) not in known:
                    known[slow_text(other)] = other
                    waiting.append(other)
                    if len(known) > most:
                        return None
    return sorted(known.values(), key=lambda t: (len(leaves_in(t)), levels(t), slow_text(t)))


# A tree with just 200 forms by five rules: two of its parts have five forms each, three have two.
GROWING = [(land(*[ZERO] * k), land(*[ZERO] * (k + 1))) for k in range(1, 5)] + [(lor(ZERO), lor(ZERO, ZERO))]
WITH_200 = lor(land(ZERO), land(ZERO), lor(ZERO), lor(ZERO), lor(ZERO))
LAST_OF_200 = lor(land(*[ZERO] * 5), land(*[ZERO] * 5), lor(ZERO, ZERO), lor(ZERO, ZERO), lor(ZERO, ZERO))


class Rules(Case):
    def test_the_interface(self):
        self.stands_in(module, ["need_rule", "put_in", "broken_by", "letter_tree", "fitted", "rewritten", "forms",
                                "leanest"])

    def test_rules(self):
        source = sample(1)
        large = lor(*[A, B, C, D, E] * 48)
        rules = [random_rule(source, 5) for _ in range(100)]
        for rule in KEEPING + BREAKING + rules + [(large, large), (nots(8), nots(8))]:
            self.assertIsNone(wrong_rule(rule))
            self.assertIsNone(need_rule(rule))
        self.assertIsNone(need_rule(thing=(A, A)))
        self.assertIsNone(need_rule((lor(A, E), no(E))))

    def test_what_is_no_rule(self):
        for thing, told in wrong_rules():
            with self.subTest(thing=names(thing)):
                self.assertEqual(wrong_rule(thing), told)
                if told is None:
                    self.assertIsNone(need_rule(thing))
                    continue
                error = {"which": told[0], "path": told[1]}
                self.refuses(InvalidRule, error, need_rule, thing)
                self.refuses(InvalidRule, error, broken_by, thing)
                self.refuses(InvalidRule, error, fitted, A, (), thing)
                self.refuses(InvalidRule, error, rewritten, A, (7,), thing)
                self.refuses(InvalidRule, error, forms, A, [(A, A), thing, None])
                self.refuses(InvalidRule, error, leanest, A, (thing,))

    def test_the_examples_of_the_document(self):
        a, b, c = A, B, C
        self.assertEqual(put_in(("and", (a, ("not", b))), {0: c, 1: ("or", (a, c))}),
                         ("and", (("in", 2), ("not", ("or", (("in", 0), ("in", 2)))))))
        self.assertEqual(broken_by((("or", (a, b)), ("or", (a, ("and", (("not", a), b)))))), [(0, "01"), (1, "1")])
        self.assertIsNone(broken_by((("or", (a, ("and", (("not", a), b)))), ("or", (a, b)))))
        self.assertEqual(forms(("and", (b, a)), [(("and", (a, b)), ("and", (b, a)))]),
                         [("and", (a, b)), ("and", (b, a))])
        tree = ("not", ("or", (("and", (a, c)), ("and", (a, b)))))
        rule = (("or", (("and", (a, b)), ("and", (a, c)))), ("and", (a, ("or", (b, c)))))
        self.assertEqual(rewritten(tree, (0,), rule), ("not", ("and", (("in", 0), ("or", (("in", 2), ("in", 1)))))))
        # The example in the text behind [81].
        self.assertIsNone(broken_by(rule))
        longer = lor(land(a, b), land(no(a), c), land(b, c))
        shorter = lor(land(a, b), land(no(a), c))
        self.assertEqual(broken_by((longer, shorter)), [(0, "01"), (1, "1"), (2, "1")])
        given = {0: "01", 1: "1", 2: "1"}
        self.assertEqual([word_of(longer, given), word_of(shorter, given)], ["1", "101"])

    def test_put_in(self):
        source = sample(2)
        for tree in some_trees(5, 150, 20, 10, 4):
            trees = {i: random_tree(5, source, source.randint(1, 5), 4) for i in range(5)}
            kept = copy.deepcopy(trees)
            self.assertEqual(put_in(tree, trees), slow_put_in(tree, trees))
            own = {i: trees[i] for i in reversed(letters(tree))}
            self.assertEqual(put_in(tree, own), slow_put_in(tree, trees))
            self.assertEqual(trees, kept)
        self.assertEqual(put_in(ONE, {}), ONE)
        self.assertEqual(put_in(trees={0: B, 1: A}, tree=lor(A, no(B), A)), lor(B, no(A), B))

    def test_put_in_at_the_limits(self):
        for tree, trees in ((lor(A, B), {0: lor(*[C] * 120), 1: land(*[A] * 120)}),
                            (lor(*[A] * 48), {0: land(*[B] * 5)}),
                            (nots(4), {0: nots(5)}), (nots(8), {0: C}), (A, {0: lor(*[A] * 240)}), (A, {0: nots(8)})):
            self.assertTrue(is_small(slow_put_in(tree, trees)))
            self.assertEqual(put_in(tree, trees), slow_put_in(tree, trees))
        for tree, trees, limit in (
                (lor(A, B), {0: lor(*[C] * 120), 1: land(*[A] * 121)}, 240), (lor(*[A] * 49), {0: land(*[B] * 5)}, 240),
                (lor(A, B), {0: lor(*[C] * 240), 1: ONE}, 240), (lor(*[A] * 240), {0: lor(*[A] * 240)}, 240),
                (nots(4), {0: nots(6)}, 8), (nots(8), {0: no(C)}, 8), (nots(8), {0: nots(8)}, 8),
                (land(A), {0: nots(8)}, 8),
                (lor(no(A), *[B] * 239), {0: nots(8), 1: land(C, D)}, 240),
                (lor(no(A), *[B] * 120), {0: nots(8), 1: lor(B, B)}, 240),
                (lor(no(A), *[B] * 119), {0: nots(7), 1: lor(B, B)}, 8)):
            self.refuses(LimitExceeded, {"limit": limit}, put_in, tree, trees)

    def test_put_in_into_what_is_no_tree(self):
        for thing, path in wrong_trees(5):
            with self.subTest(thing=names(thing)):
                self.refuses(InvalidTree, {"path": path}, put_in, thing, {i: lor(*[A] * 240) for i in range(5)})

    def test_letter_tree(self):
        x = A
        both, either = ("and", (x, ("not", x))), ("or", (x, ("not", x)))
        told = {"0": ZERO, "1": ONE, "01": x, "10": ("not", x), "010": both, "101": either, "0101": ("or", (both, x)),
                "1010": ("and", (either, ("not", x)))}
        for word, tree in told.items():
            self.assertEqual(letter_tree(word), tree)
            self.assertEqual(longest_of(("0", "1"), tree), word)
        self.assertEqual(letter_tree(word="01"), x)
        others = ["", "00", "11", "-", "01010", "10101", "0 1", "010101", "x0", "011", b"01", ["01"], ("0", "1"), 0, 1,
                  10, True]
        for thing in words(8) + others + anything():
            if not (isinstance(thing, str) and thing in EIGHT):
                with self.subTest(thing=names(thing)):
                    self.refuses(InvalidWord, {}, letter_tree, thing)


class Keeping(Case):
    def test_rules_that_keep(self):
        for rule in KEEPING:
            self.assertIsNone(slow_broken_by(rule), rule)
            self.assertIsNone(broken_by(rule), rule)

    def test_rules_that_do_not(self):
        for rule in BREAKING:
            told = slow_broken_by(rule)
            self.assertIsNotNone(told, rule)
            self.assertEqual(broken_by(rule), told)
            self.is_new(broken_by, rule)

    def test_rules_by_chance(self):
        source = sample(3)
        seen = {True: 0, False: 0}
        for many in (1, 2, 3):
            for _ in range(250):
                rule = random_rule(source, many)
                told = slow_broken_by(rule)
                self.assertEqual(broken_by(rule), told)
                seen[told is None] += 1
        self.assertGreater(min(seen.values()), 100)

    def test_rules_with_all_five_letters(self):
        source = sample(4)
        rules = [(lor(land(A, B), land(C, D), E), lor(E, land(D, C), land(B, A))),
                 (lor(land(A, E), land(B, E), land(C, D)), lor(land(E, lor(A, B)), land(D, C))),
                 (land(lor(A, B), lor(no(A), C), D, E), land(lor(A, B), lor(no(A), C), lor(B, C), D, E))]
        for rule in rules + [random_rule(source, 5, 12) for _ in range(25)]:
            self.assertEqual(broken_by(rule), slow_broken_by(rule))

    def test_letters_that_are_not_the_first_ones(self):
        for rule in [(lor(B, E), lor(B, land(no(B), E))), (land(E), no(no(E))), (lor(D, C), lor(C)), (no(E), E)]:
            self.assertEqual(broken_by(rule), slow_broken_by(rule))
        self.assertEqual(broken_by((lor(B, E), lor(B, land(no(B), E)))), [(1, "01"), (4, "1")])
        self.assertEqual(broken_by(rule=(lor(D, C), lor(C))), [(2, "0"), (3, "1")])

    def test_rules_without_letters(self):
        self.assertEqual([broken_by((ONE, ZERO)), broken_by((no(ONE), lor(ONE, ZERO)))], [[], []])
        self.assertEqual([broken_by((ONE, lor(ZERO, ONE))), broken_by((ZERO, ZERO))], [None, None])

    def test_letters_of_left_that_right_does_not_have(self):
        self.assertEqual(broken_by((lor(A, land(B, no(B))), A)), slow_broken_by((lor(A, land(B, no(B))), A)))
        self.assertEqual(broken_by((lor(C, A), C)), [(0, "1"), (2, "0")])
        self.assertIsNone(broken_by((land(B, no(B), A), ZERO)))

    def test_the_first_of_all_lists(self):
        seen = set()
        source = sample(5)
        for _ in range(400):
            rule = random_rule(source, 2, 9)
            told = broken_by(rule)
            self.assertEqual(told, slow_broken_by(rule))
            seen |= {word for _, word in told or []}
        self.assertEqual(seen, {"0", "1", "01"})
        # Here the words "01" and "01" make left longer than needed, too.
        rule = (land(lor(no(A), B), B), land(lor(A, no(A), B), B))
        self.assertEqual(slow_broken_by(rule), [(0, "01"), (1, "10")])
        self.assertEqual(broken_by(rule), [(0, "01"), (1, "10")])

    def test_large_rules(self):
        left, right = lor(*[A, B, C, D, E] * 48), land(*[E, D, C, B, A] * 48)
        self.assertEqual(broken_by((left, right)), [(0, "0"), (1, "0"), (2, "0"), (3, "0"), (4, "1")])
        self.assertIsNone(broken_by((left, lor(*[E, D, C, B, A] * 48))))
        # Many delays make a longer word, but not one of another shape.
        self.assertEqual(broken_by((lor(A, B), lor(*[A, land(no(A), B)] * 80))), [(0, "01"), (1, "1")])

    def test_eight_words_are_enough(self):
        source = sample(6)
        more = words(7)
        rules = [random_rule(source, 2) for _ in range(60)]
        for rule in rules + [rule for rule in KEEPING if len(letters(rule[0])) < 3]:
            keeps = broken_by(rule) is None
            self.assertEqual(slow_broken_by(rule, more) is None, keeps, rule)

    def test_the_trees_of_the_words_show_it(self):
        source = sample(7)
        for rule in BREAKING + [random_rule(source, 3) for _ in range(150)]:
            told = broken_by(rule)
            if told is not None:
                trees = {letter: letter_tree(word) for letter, word in told}
                left, right = [slow_put_in(side, trees) for side in rule]
                change = ("0", "1")
                same = all(at_point(point, left) == at_point(point, right) for point in change)
                self.assertTrue(not same or (calm_tree(change, left) and not calm_tree(change, right)), rule)

    def test_what_a_rule_that_keeps_keeps(self):
        source = sample(8)
        rules = KEEPING + [rule for rule in [random_rule(source, 3) for _ in range(60)] if broken_by(rule) is None]
        calm = 0
        for rule in rules:
            for _ in range(6):
                n = source.choice([1, 2, 2, 3])
                trees = {i: random_tree(n, source, source.randint(1, 4), 3) for i in range(5)}
                left, right = [slow_put_in(side, trees) for side in rule]
                calm += self.check_kept(n, left, right)
        self.assertGreater(calm, 500)

    def check_kept(self, n, tree, other):
        """The other tree is as good as the tree; how many changes the tree is calm for."""
        for point in points(n):
            self.assertEqual(tree_value(point, tree), tree_value(point, other))
        small = is_small(tree) and is_small(other)
        calm = [change for change in changes(n) if small and calm_tree(change, tree)]
        for change in calm:
            self.says(True, calm_tree(change, other))
        return len(calm)

    def test_rewriting_by_a_rule_that_keeps(self):
        source = sample(9)
        calm = 0
        for rule in KEEPING:
            for _ in range(8):
                n = source.choice([1, 2, 3])
                trees = {i: random_tree(n, source, source.randint(1, 3), 2) for i in range(5)}
                tree = random_tree(n, source, 4, 3)
                path = source.choice([path for path, _ in all_nodes(tree)])
                tree = put_at(tree, path, slow_put_in(rule[0], trees))
                if is_small(tree) and is_small(slow_rewrite(tree, path, rule)):
                    calm += self.check_kept(n, tree, rewritten(tree, path, rule))
        self.assertGreater(calm, 300)


class Rewriting(Case):
    def test_fitted(self):
        told = [
            (A, (), (A, A), {0: A}), (lor(B, C), (1,), (A, A), {0: C}), (lor(B, C), (), (B, B), {1: lor(B, C)}),
            (land(B, no(B)), (), (land(A, no(A)), A), {0: B}), (land(B, no(C)), (), (land(A, no(A)), A), None),
            (land(B, no(C)), (), (land(C, no(A)), A), {2: B, 0: C}), (land(B, C), (), (lor(A, B), A), None),
            (land(B, C), (), (land(A, B, C), A), None), (land(B, C, D), (), (land(A, B), A), None),
            (ONE, (), (ONE, ZERO), {}),
            (ZERO, (), (ONE, ZERO), None), (A, (), (ONE, ZERO), None), (ONE, (), (A, A), {0: ONE}),
            (no(ONE), (0,), (ONE, ONE), {}),
            (no(A), (), (no(no(A)), A), None), (no(no(B)), (), (no(no(A)), A), {0: B}),
            (no(no(B)), (0,), (no(A), A), {0: B}),
            (lor(A, ONE), (), (lor(A, ZERO), A), None), (lor(lor(A, B), lor(A, B)), (), (lor(A, A), A), {0: lor(A, B)}),
            (lor(lor(A, B), lor(B, A)), (), (lor(A, A), A), None),
            (lor(land(A, B), land(A, C)), (), (KEEPING[0]), {0: A, 1: B, 2: C}),
            (lor(land(B, A), land(A, C)), (), KEEPING[0], None), (lor(A, ONE), (1,), (lor(A, ONE), A), None),
        ]
        for tree, path, rule, trees in told:
            self.assertEqual(slow_fit(rule[0], dict(all_nodes(tree))[path]), trees)
            self.assertEqual(fitted(tree, path, rule), trees)
        self.assertEqual(fitted(rule=(B, B), path=(0,), tree=no(C)), {1: C})

    def cases(self, many, seed):
        """Triples of a tree, a path and a rule, many of which fit."""
        source = sample(seed)
        for _ in range(many):
            rule = source.choice(KEEPING + BREAKING) if source.randrange(2) else random_rule(source, 3)
            tree = random_tree(5, source, source.randint(1, 6), 4)
            path = source.choice([path for path, _ in all_nodes(tree)])
            if source.randrange(4):
                trees = {i: random_tree(5, source, source.randint(1, 3), 2) for i in range(5)}
                tree = put_at(tree, path, slow_put_in(rule[0], trees))
                if source.randrange(3) == 0:
                    inner = source.choice([path for path, _ in all_nodes(tree)])
                    tree = put_at(tree, inner, random_tree(5, source, 2, 2))
            path = path if path in dict(all_nodes(tree)) else ()
            if is_small(tree):
                yield tree, path, rule

    def test_fitted_by_chance(self):
        seen = {True: 0, False: 0}
        for tree, path, rule in self.cases(600, 1):
            told = slow_fit(rule[0], dict(all_nodes(tree))[path])
            found = fitted(tree, path, rule)
            self.assertEqual(found, told)
            seen[told is None] += 1
            if told is not None:
                self.assertIs(type(found), dict)
                self.assertEqual(put_in(rule[0], found), dict(all_nodes(tree))[path])
                self.assertIsNot(fitted(tree, path, rule), found)
        self.assertGreater(min(seen.values()), 100)

    def test_rewritten(self):
        done = 0
        for tree, path, rule in self.cases(600, 2):
            told = slow_rewrite(tree, path, rule)
            if told is None:
                self.refuses(NothingLeft, {"word": "rule"}, rewritten, tree, path, rule)
            elif is_small(told):
                self.assertEqual(rewritten(tree, path, rule), told)
                done += 1
            else:
                limit = 240 if len(leaves_in(told)) > 240 else 8
                self.refuses(LimitExceeded, {"limit": limit}, rewritten, tree, path, rule)
        self.assertGreater(done, 200)
        self.assertEqual(rewritten(rule=(A, no(A)), path=(1,), tree=land(A, B)), land(A, no(B)))

    def test_rewritten_at_the_limits(self):
        twice = (A, lor(A, A))
        deeper = (A, no(A))
        for tree, path, rule in ((lor(*[A] * 239), (7,), twice), (lor(*[A] * 120), (), twice),
                                 (nots(7), (0, 0), deeper),
                                 (nots(8), (), (no(A), A)), (nots(7), (0,) * 6, deeper), (lor(*[A] * 240), (), (A, A)),
                                 (lor(nots(7), A), (1,), (A, nots(7)))):
            told = slow_rewrite(tree, path, rule)
            self.assertTrue(is_small(told))
            self.assertEqual(rewritten(tree, path, rule), told)
        for tree, path, rule, limit in (
                (lor(*[A] * 240), (7,), twice, 240), (lor(*[A] * 121), (), twice, 240), (nots(8), (0, 0), deeper, 8),
                (nots(8), (0,) * 7, deeper, 8), (nots(8), (), deeper, 8), (lor(nots(7), A), (0, 0), deeper, 8),
                (lor(*[A] * 240), (), (A, lor(*[A] * 240)), 240),
                (lor(nots(7), *[A] * 239), (0,), (no(A), no(no(lor(A, A)))), 240),
                (lor(nots(7), *[A] * 238), (0,), (no(A), no(no(lor(A, A)))), 8),
                (lor(nots(7), *[A] * 239), (0,), (A, land(no(A), A)), 240)):
            self.refuses(LimitExceeded, {"limit": limit}, rewritten, tree, path, rule)

    def test_paths_that_lead_to_no_node(self):
        tree = lor(A, land(B, no(C)), ONE)
        for path in ((3,), (0, 0), (1, 2), (1, 1, 1), (1, 1, 0, 0), (2, 0), (0,) * 20, (10 ** 9,), (1, 0, 0)):
            self.refuses(NothingLeft, {"word": "node"}, fitted, tree, path, (A, A))
            self.refuses(NothingLeft, {"word": "node"}, rewritten, tree, path, (A, A))
            self.refuses(NothingLeft, {"word": "node"}, rewritten, tree, path, (ZERO, ONE))
        for path, node in all_nodes(tree):
            self.assertEqual(fitted(tree, path, (E, E)), {4: node})
        self.refuses(NothingLeft, {"word": "node"}, fitted, no(A), (1,), (A, A))

    def test_any_value_as_a_path(self):
        tree = lor(A, land(B, no(C)), ONE)
        paths = [path for path, _ in all_nodes(tree)]
        things = anything() + [[], [0], [1, 0], (-1,), (-3,), (1, -1), (True,), (False,), (1, False), (1.0, 0), (0.0,),
                               "", "0", b"", {}, {0: 0}, range(0), range(1)]
        for thing in anything(39):
            things += [(thing,), (1, thing), (thing, 0), [1, thing]]
        for thing in things:
            with self.subTest(thing=names(thing)):
                if isinstance(thing, tuple) and all(is_int(at) for at in thing) and thing in paths:
                    self.assertEqual(fitted(tree, thing, (E, E)), {4: dict(all_nodes(tree))[thing]})
                else:
                    self.refuses(NothingLeft, {"word": "node"}, fitted, tree, thing, (A, A))
                    self.refuses(NothingLeft, {"word": "node"}, rewritten, tree, thing, (ONE, lor(*[ONE] * 240)))
                    # What is wrong with the tree or the rule comes ahead.
                    self.refuses(InvalidTree, {"path": (0,)}, rewritten, no(None), thing, None)
                    self.refuses(InvalidRule, {"which": -1, "path": ()}, rewritten, tree, thing, None)

    def test_the_first_error_that_is_due(self):
        for function in (fitted, rewritten):
            for thing, path in wrong_trees(5):
                self.refuses(InvalidTree, {"path": path}, function, thing, (9,), None)
            self.refuses(InvalidRule, {"which": -1, "path": ()}, function, A, (9,), None)
            self.refuses(InvalidRule, {"which": 2, "path": ()}, function, A, (9,), (ONE, A))
            self.refuses(NothingLeft, {"word": "node"}, function, lor(*[A] * 240), (240,), (ONE, lor(*[ONE] * 240)))
        self.refuses(NothingLeft, {"word": "rule"}, rewritten, lor(*[A] * 240), (), (ONE, nots(8, ONE)))


class Forms(Case):
    def test_forms_by_chance(self):
        source = sample(11)
        pool = [rule for rule in KEEPING + BREAKING if len(leaves_in(rule[1])) <= len(leaves_in(rule[0]))]
        pool = [rule for rule in pool if rule[0][0] != "in" or rule == (A, A)]
        seen = []
        for tree in some_trees(5, 150, 30, 5, 4):
            rules = [source.choice(pool) for _ in range(source.choice([0, 1, 1, 2, 3, 8]))]
            for rule in rules[:2]:
                trees = {i: random_tree(5, source, source.randint(1, 2), 2) for i in range(5)}
                path = source.choice([path for path, _ in all_nodes(tree)])
                tree = put_at(tree, path, slow_put_in(rule[0], trees))
            told = slow_forms(tree, rules)
            if told is None:
                self.refuses(LimitExceeded, {"limit": 200}, forms, tree, rules)
                self.refuses(LimitExceeded, {"limit": 200}, leanest, tree, rules)
            else:
                self.assertEqual(forms(tree, rules), told)
                self.assertEqual(leanest(tree, tuple(rules)), told[0])
                seen.append(len(told))
        self.assertGreater(len([many for many in seen if many > 1]), 40)
        self.assertGreater(max(seen), 20)

    def test_no_rules_and_rules_that_do_not_fit(self):
        for tree in (A, lor(A, B), lor(*[A] * 240), nots(8)):
            self.assertEqual(forms(tree, []), [tree])
            self.assertEqual(forms(tree, ()), [tree])
            self.assertEqual(forms(tree, [(ONE, ZERO), (A, A), (land(A, B), A)]), [tree])
            self.assertEqual(leanest(tree, []), tree)
        self.assertEqual(forms(rules=[(ONE, ZERO)], tree=ONE), [ZERO, ONE])
        self.assertEqual(leanest(rules=[(ONE, ZERO)], tree=ONE), ZERO)

    def test_the_order_of_forms(self):
        rules = [(land(A, B), land(B, A)), (land(A, ONE), A), (A, A), (no(no(A)), A)]
        tree = land(no(no(B)), land(A, ONE))
        found = forms(tree, rules)
        self.assertEqual(found, slow_forms(tree, rules))
        keys = [(len(leaves_in(t)), levels(t), slow_text(t)) for t in found]
        self.assertEqual(keys, sorted(set(keys)))
        self.assertEqual(found[0], land(A, B))
        # Fewer leaves come first, then fewer levels, then the text.
        self.assertEqual(forms(land(A, A), [(land(A, A), nots(4))]), [nots(4), land(A, A)])
        self.assertEqual(forms(nots(3, ONE), [(no(no(A)), land(A))]), [land(ONE), nots(3, ONE)])
        self.assertEqual(forms(land(B, B), [(land(A, A), A), (land(A, A), lor(A, A))]), [B, land(B, B), lor(B, B)])
        self.assertEqual(forms(ONE, [(ONE, ZERO), (ONE, nots(3, ZERO))]),
                         slow_forms(ONE, [(ONE, ZERO), (ONE, nots(3, ZERO))]))
        self.is_new(forms, tree, rules)

    def test_each_rewriting_stays_within_the_bounds(self):
        self.assertEqual(forms(nots(8), [(A, no(A))]), [nots(8)])
        self.assertEqual(forms(A, [(A, no(no(A)))]), [nots(1), nots(3), nots(5), nots(7)])
        self.assertEqual(forms(A, [(A, no(A))]), [nots(k) for k in range(1, 9)])
        full = lor(*[A] * 240)
        self.assertEqual(forms(full, [(A, lor(A, A))]), [full])
        self.assertEqual(forms(full, [(A, land(A, A)), (lor(*[A] * 239), A)]), [full])
        self.assertEqual(forms(full, [(A, lor(*[A] * 240))]), [full])
        nearly = lor(*[ONE] * 239)
        self.refuses(LimitExceeded, {"limit": 200}, forms, nearly, [(ONE, lor(ONE, ONE))])
        # A way that leads over a tree that is too large counts for nothing.
        self.assertEqual(forms(nots(8, ONE), [(ONE, land(ONE)), (land(ONE), ZERO)]), [nots(8, ONE)])
        self.assertEqual(forms(nots(7, ONE), [(ONE, land(ONE)), (land(ONE), ZERO)]),
                         [nots(7, ZERO), nots(7, ONE), nots(7, land(ONE))])
        wide = lor(*[A] * 239, ONE)
        self.assertEqual(forms(wide, [(ONE, land(ONE, ONE)), (land(ONE, ONE), ZERO)]), [wide])
        self.assertEqual(len(forms(lor(*[A] * 238, ONE), [(ONE, land(ONE, ONE)), (land(ONE, ONE), ZERO)])), 3)

    def test_200_forms_and_more(self):
        found = forms(WITH_200, GROWING)
        self.assertEqual(len(found), 200)
        self.assertEqual(found, slow_forms(WITH_200, GROWING))
        self.assertEqual([found[0], found[-1]], [WITH_200, LAST_OF_200])
        self.assertEqual(leanest(WITH_200, GROWING), WITH_200)
        more = GROWING + [(LAST_OF_200, ONE)]
        self.assertIsNone(slow_forms(WITH_200, more))
        self.refuses(LimitExceeded, {"limit": 200}, forms, WITH_200, more)
        self.refuses(LimitExceeded, {"limit": 200}, leanest, WITH_200, more)
        self.assertEqual(len(slow_forms(WITH_200, more, 201)), 201)
        self.refuses(LimitExceeded, {"limit": 200}, forms, lor(*[ONE] * 240), [(ONE, ZERO)])

    def test_eight_rules_and_nine(self):
        rules = [(A, A)] * 8
        self.assertEqual(forms(lor(A, B), rules), [lor(A, B)])
        self.assertEqual(forms(lor(A, B), GROWING + [(lor(A, B), lor(B, A)), (A, A), (lor(A, B), A)]),
                         slow_forms(lor(A, B), [(lor(A, B), lor(B, A)), (lor(A, B), A)]))
        for function in (forms, leanest):
            for thing in (rules + rules[:1], tuple(rules) + ((A, A),), [None] * 9):
                self.refuses(InvalidRule, {"which": -1, "path": ()}, function, A, thing)
            for thing in anything():
                if not isinstance(thing, (list, tuple)) or len(thing) > 8:
                    with self.subTest(thing=names(thing)):
                        self.refuses(InvalidRule, {"which": -1, "path": ()}, function, A, thing)
                elif thing:
                    told = [wrong_rule(rule) for rule in thing if wrong_rule(rule) is not None][0]
                    with self.subTest(thing=names(thing)):
                        self.refuses(InvalidRule, {"which": told[0], "path": told[1]}, function, A, thing)
                else:
                    self.assertEqual(forms(A, thing), [A])
            self.refuses(InvalidRule, {"which": 2, "path": (0,)}, function, A, [(A, A), (ONE, no(A)), (None, A), None])

    def test_a_wrong_tree_comes_first(self):
        for thing, path in wrong_trees(5):
            with self.subTest(thing=names(thing)):
                self.refuses(InvalidTree, {"path": path}, forms, thing, None)
                self.refuses(InvalidTree, {"path": path}, leanest, thing, [None])

    def test_the_leanest_form_is_a_tree_with_the_same_values(self):
        rules = [KEEPING[0], (lor(A, B), lor(B, A)), (land(A, B), land(B, A))]
        tree = lor(land(A, B), land(C, A))
        self.assertEqual(leanest(tree, rules), land(A, lor(B, C)))
        for point in points(3):
            self.assertEqual({tree_value(point, form) for form in forms(tree, rules)}, {tree_value(point, tree)})

    def test_rules_are_kept_as_they_are(self):
        rules = [KEEPING[0], (lor(A, B), lor(B, A))]
        kept = copy.deepcopy(rules)
        forms(lor(land(A, B), land(C, A)), rules)
        self.assertEqual(rules, kept)


if __name__ == "__main__":
    unittest.main()
