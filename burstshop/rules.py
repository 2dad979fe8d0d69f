"""Rules: what may stand in a tree instead of what, and whether each tree stays right for all delays."""

from burstshop.errors import InvalidRule, InvalidWord, LimitExceeded, NothingLeft
from burstshop.shapes import all_rows, letter_signal, row_words, tree_signal
from burstshop.signs import is_integer
from burstshop.trees import need_tree, nodes_of, parts_of, tree_size, with_parts, wrong_node
from burstshop.treetexts import tree_text


def need_rule(thing):
    """Refuse what is not a rule."""
    if not isinstance(thing, tuple) or len(thing) != 2:
        raise InvalidRule(-1, ())
    left, right = thing
    for which, tree in ((0, left), (1, right)):
        path = wrong_node(tree, 5)
        if path is not None:
            raise InvalidRule(which, path)
    known = letters_of(left)
    for path, node in nodes_of(right):
        if node[0] == "in" and node[1] not in known:
            raise InvalidRule(2, path)


def put_in(tree, trees):
    """Return a tree with each letter replaced by the tree that trees has for it."""
    need_tree(tree, 5)
    result = filled(tree, trees)
    need_room(result)
    return result


def broken_by(rule):
    """Return None if the rule keeps, else the first words of its letters that show that it does not."""
    need_rule(rule)
    left, right = rule
    letters = letters_of(left)
    many = len(letters)
    signals = {letter: letter_signal(at, many) for at, letter in enumerate(letters)}
    before = tree_signal(left, signals)
    after = tree_signal(right, signals)
    differing = (before[0] ^ after[0]) | (before[1] ^ after[1]) | (after[2] & ~before[2])
    rows = differing & all_rows(many)
    if rows == 0:
        return None
    first = (rows & -rows).bit_length() - 1
    return list(zip(letters, row_words(first, many)))


def letter_tree(word):
    """Return a tree of one input that has just this longest word while the input turns from 0 to 1."""
    x = ("in", 0)
    no = ("not", x)
    both = ("and", (x, no))
    either = ("or", (x, no))
    trees = {"0": ("zero",), "1": ("one",), "01": x, "10": no, "010": both, "101": either,
             "0101": ("or", (both, x)), "1010": ("and", (either, no))}
    if not isinstance(word, str) or word not in trees:
        raise InvalidWord()
    return trees[word]


def fitted(tree, path, rule):
    """Return a dict with the trees that the letters of the rule's left stand for at a node, or None."""
    need_tree(tree, 5)
    need_rule(rule)
    return fit(rule[0], node_at(tree, path))


def rewritten(tree, path, rule):
    """Return the tree with the rule's right in the place of the node that its left fits."""
    trees = fitted(tree, path, rule)
    if trees is None:
        raise NothingLeft("rule")
    result = replaced(tree, path, filled(rule[1], trees))
    need_room(result)
    return result


def forms(tree, rules):
    """List the trees that come of a tree by rewriting again and again, smaller ones first."""
    need_tree(tree, 5)
    need_rules(rules)
    found = {tree_text(tree): tree}
    waiting = [tree]
    while waiting:
        form = waiting.pop()
        waiting.extend(new_forms(found, form, rules))
    ranks = sorted([(*tree_size(other), text) for text, other in found.items()])
    return [found[text] for _, _, text in ranks]


def leanest(tree, rules):
    """Return the first of the forms of a tree."""
    return forms(tree, rules)[0]


def need_rules(rules):
    """Refuse what is not a sequence of 0 to 8 rules."""
    if not isinstance(rules, (list, tuple)) or len(rules) > 8:
        raise InvalidRule(-1, ())
    for rule in rules:
        need_rule(rule)


def need_room(tree):
    """Refuse a tree that is too large."""
    leaves, deep = tree_size(tree)
    if leaves > 240:
        raise LimitExceeded(240)
    if deep > 8:
        raise LimitExceeded(8)


def letters_of(tree):
    """List the letters of a tree, ascending."""
    return sorted({node[1] for _, node in nodes_of(tree) if node[0] == "in"})


def filled(tree, trees):
    """Return a tree with its letters replaced, whatever its size is then."""
    if tree[0] == "in":
        return trees[tree[1]]
    return with_parts(tree, [filled(part, trees) for part in parts_of(tree)])


def replaced(tree, path, new):
    """Return a tree with another node at a path that it has."""
    if not path:
        return new
    parts = list(parts_of(tree))
    parts[path[0]] = replaced(parts[path[0]], path[1:], new)
    return with_parts(tree, parts)


def node_at(tree, path):
    """Return the node at a path of the tree; what is no path, whatever it is, leads to no node."""
    if not isinstance(path, tuple):
        raise NothingLeft("node")
    node = tree
    for at in path:
        parts = parts_of(node)
        if not is_integer(at) or not 0 <= at < len(parts):
            raise NothingLeft("node")
        node = parts[at]
    return node


def fit(left, node):
    """Return a dict with the trees that the letters of left stand for at the node, or None."""
    trees = {}
    waiting = [(left, node)]
    while waiting:
        pattern, part = waiting.pop()
        if pattern[0] == "in":
            if trees.setdefault(pattern[1], part) != part:
                return None
        elif pattern[0] != part[0] or len(parts_of(pattern)) != len(parts_of(part)):
            return None
        else:
            waiting.extend(list(zip(parts_of(pattern), parts_of(part))))
    return trees


def new_forms(found, tree, rules):
    """Add what comes of a tree by rewriting once to the found trees, and list what is new there."""
    new = []
    for path, node in nodes_of(tree):
        for right in rights_at(node, rules):
            result = replaced(tree, path, right)
            leaves, deep = tree_size(result)
            text = tree_text(result) if leaves <= 240 and deep <= 8 else None
            if text is not None and text not in found:
                found[text] = result
                new.append(result)
                if len(found) > 200:
                    raise LimitExceeded(200)
    return new


def rights_at(node, rules):
    """List the trees that the rules put in the place of a node, without the node itself."""
    rights = []
    for left, right in rules:
        trees = fit(left, node)
        if trees is not None:
            rights.append(filled(right, trees))
    return [tree for tree in rights if tree != node]
