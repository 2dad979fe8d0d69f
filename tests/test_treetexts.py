"""burstshop.treetexts: promise [210], what [213] says of trees, and [2] to [4] there."""

import copy
import itertools
import re
import unittest

from burstshop import treetexts as module
from burstshop.errors import InvalidText, InvalidTree
from burstshop.treetexts import read_tree, write_tree
from tests.helper import Case, anything, first_wrong, names, nest, nots, sample, slow_text, some_trees, wrong_trees

X = ("in", 0)
SIGNS = "x01234!&|(),"


def is_text_of_tree(text):
    """Whether a text is that of a tree of whatever size: its smallest trees are replaced by T, again and again."""
    if set(text) - set(SIGNS):
        return False
    before = None
    text = re.sub("x[0-4]|[01]", "T", text)
    while text != before:
        before = text
        text = re.sub(r"!+T|[&|]\(T(,T)*\)", "T", text)
    return text == "T"


def goes_on(text):
    """Whether some text of a tree begins so."""
    return any(is_text_of_tree(text + more + ")" * many)
               for more in ("", "0", "(0") for many in range(text.count("(") + 2))


def first_fault(text):
    """The index that InvalidText tells, or None, by the words of [210]."""
    for at in range(len(text)):
        if not goes_on(text[:at + 1]):
            return at
    return None if is_text_of_tree(text) else len(text)


class TreeTexts(Case):
    def test_the_interface(self):
        self.stands_in(module, ["write_tree", "read_tree"])

    def test_examples_of_the_document(self):
        tree = ("or", (("and", (("in", 0), ("not", ("in", 2)))), ("one",)))
        self.assertEqual(write_tree(tree), "|(&(x0,!x2),1)")
        self.assertEqual(read_tree("|(&(x0,!x2),1)"), tree)
        self.refuses(InvalidText, {"at": 6}, read_tree, "&(x0,x5)")

    def test_each_form(self):
        told = {("in", 0): "x0", ("in", 4): "x4", ("one",): "1", ("zero",): "0", ("not", X): "!x0",
                ("not", ("not", ("one",))): "!!1", ("and", (X,)): "&(x0)", ("or", (X,)): "|(x0)",
                ("and", (X, ("zero",), ("in", 1))): "&(x0,0,x1)", ("not", ("or", (("in", 3), X))): "!|(x3,x0)",
                ("or", (("or", (X,)), ("and", (("not", X), X)))): "|(|(x0),&(!x0,x0))"}
        for tree, text in told.items():
            self.assertEqual(write_tree(tree), text)
            self.assertEqual(read_tree(text), tree)
        self.assertEqual(write_tree(tree=X), "x0")
        self.assertEqual(read_tree(text="x0"), X)

    def test_what_is_read_is_what_was_written(self):
        for leaves in (1, 3, 8, 40, 240):
            for tree in some_trees(5, 80, leaves, leaves):
                text = write_tree(tree)
                self.assertEqual(text, slow_text(tree))
                read = read_tree(text)
                self.assertEqual(repr(read), repr(tree))
                self.assertEqual(write_tree(read), text)

    def test_trees_at_the_bounds(self):
        trees = [("or", (X,) * 240), ("and", (("not", X),) * 240), nots(8), nest(7, lambda t: ("or", (t,)), X),
                 ("or", (nest(6, lambda t: ("and", (t, t)), X),) * 3 + (X,) * 48)]
        for tree in trees:
            self.assertEqual(read_tree(slow_text(tree)), tree)
            self.assertEqual(write_tree(tree), slow_text(tree))

    def test_trees_past_the_bounds(self):
        trees = [("or", (X,) * 241), ("or", (("and", (X,) * 120), ("or", (X,) * 121))), nots(9), nots(40),
                 nots(9, ("one",)),
                 nest(8, lambda t: ("or", (t,)), X), ("and", (X, nots(8))), ("and", (nots(7), nots(8))),
                 ("or", (X,) * 241 + (nots(8),)), ("or", (X, nots(8)) + (X,) * 240), ("or", (X,) * 240 + (nots(5),))]
        for tree in trees:
            path = first_wrong(tree, 5)
            self.assertIsNotNone(path)
            self.refuses(InvalidTree, {"path": path}, read_tree, slow_text(tree))
            self.refuses(InvalidTree, {"path": path}, write_tree, tree)
            # What is wrong with the text comes first.
            self.refuses(InvalidText, {"at": len(slow_text(tree))}, read_tree, slow_text(tree) + ")")

    def test_texts_of_whatever_size(self):
        for many in (1000, 60000):
            self.refuses(InvalidTree, {"path": (0,) * 8}, read_tree, "!" * many + "1")
            self.refuses(InvalidText, {"at": many}, read_tree, "!" * many)
            self.refuses(InvalidTree, {"path": (0,) * 8}, read_tree, "&(" * many + "1" + ")" * many)
            self.refuses(InvalidText, {"at": 3 * many}, read_tree, "&(" * many + "1" + ")" * (many - 1))
            self.refuses(InvalidText, {"at": 3 * many + 1}, read_tree, "&(" * many + "1" + ")" * (many + 1))
            self.refuses(InvalidTree, {"path": (240,)}, read_tree, "|(" + ",".join(["x1"] * many) + ")")

    def test_what_is_no_tree(self):
        for thing, path in wrong_trees(5):
            with self.subTest(thing=names(thing)):
                self.refuses(InvalidTree, {"path": path}, write_tree, thing)

    def test_what_is_no_text(self):
        for thing in anything():
            with self.subTest(thing=names(thing)):
                if isinstance(thing, str):
                    self.check(thing)
                else:
                    self.refuses(InvalidText, {"at": -1}, read_tree, thing)

    def check(self, text):
        at = first_fault(text)
        if at is None:
            self.assertEqual(write_tree(read_tree(text)), text)
        else:
            self.refuses(InvalidText, {"at": at}, read_tree, text)

    def test_texts_that_end_too_early(self):
        whole = "|(&(x0,!x2,0),!!1,|(x4))"
        for at in range(len(whole)):
            self.refuses(InvalidText, {"at": at}, read_tree, whole[:at])
        for text in ("", "x", "!", "&", "|", "&(", "&(x", "&(0", "&(0,", "|(0,!", "!!!", "&(&(1)"):
            self.refuses(InvalidText, {"at": len(text)}, read_tree, text)

    def test_texts_that_go_on_behind_the_tree(self):
        for text in ("x0", "1", "!0", "&(1)", "|(x0,&(1,0))"):
            for more in ("0", "x", ",", ")", " ", "\n", "!", "&(1)", "(", "x0"):
                self.refuses(InvalidText, {"at": len(text)}, read_tree, text + more)

    def test_odd_texts(self):
        told = {" x0": 0, "x 0": 1, "x5": 1, "x9": 1, "x-": 1, "xx": 1, "x01": 2, "x10": 2, "y0": 0, "X0": 0, "2": 0,
                "-1": 0,
                "&x0": 1, "&()": 2, "|(,)": 2, "|(x0,)": 5, "|(x0, x1)": 5, "|(x0;x1)": 4, "|[x0]": 1, "!()": 1,
                "(x0)": 0,
                "~x0": 0, "!!": 2, "&(x0,x5)": 6, "&(x0|x1)": 4, "|(1)(": 4, "&(x0))": 5, "x0\n": 2, "\n": 0, ")": 0,
                ",": 0}
        for text, at in told.items():
            self.assertEqual(first_fault(text), at)
            self.refuses(InvalidText, {"at": at}, read_tree, text)

    def test_all_short_texts(self):
        for many in range(5):
            for signs in itertools.product("x04!&(),2 "[:9 if many == 4 else 10], repeat=many):
                self.check("".join(signs))

    def test_texts_with_one_fault(self):
        source = sample(9)
        # One more sign makes no tree of these too large.
        for tree in some_trees(5, 120, 3, 10, 6):
            text = slow_text(tree)
            for _ in range(6):
                at = source.randrange(len(text) + 1)
                sign = source.choice(SIGNS + "5 -")
                for other in (text[:at] + sign + text[at:], text[:at] + text[at + 1:],
                              text[:at] + sign + text[at + 1:]):
                    self.check(other)

    def test_no_call_changes_what_it_is_given(self):
        tree = ("or", (X, ("not", X)))
        kept = copy.deepcopy(tree)
        self.assertEqual(write_tree(tree), write_tree(tree))
        self.assertEqual(tree, kept)


if __name__ == "__main__":
    unittest.main()
