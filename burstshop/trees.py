"""Trees: gates over leaves that show the inputs, and the words that they can show during a change."""

from burstshop.changes import need_sized_change
from burstshop.covers import need_cover
from burstshop.errors import InvalidCube, InvalidPlay, InvalidPoint, InvalidTree, LimitExceeded
from burstshop.signs import is_integer, is_size, is_sized, literal_count
from burstshop.words import and_words, not_word, or_words


def is_tree(thing, n):
    """Tell whether thing is a tree of n inputs."""
    return wrong_node(thing, n) is None


def measure(tree):
    """Return how many leaves a tree has and how deep it is."""
    need_tree(tree, 5)
    return tree_size(tree)


def at_point(point, tree):
    """Tell whether a tree is 1 at a point."""
    if not is_sized(point, "01"):
        raise InvalidPoint(0)
    need_tree(tree, len(point))
    return tree_sign(point, tree) == "1"


def settled(cube, tree):
    """Return the sign that a tree shows if only the literals of a cube are known, "-" if it is open."""
    if not is_sized(cube, "-01"):
        raise InvalidCube(0)
    need_tree(tree, len(cube))
    return tree_sign(cube, tree)


def is_play(change, tree, thing):
    """Tell whether thing is a play of a tree during a change."""
    try:
        word_of_play(change, tree, thing)
    except InvalidPlay:
        return False
    return True


def word_of_play(change, tree, play):
    """Return the word that a tree shows if its gates turn as a play says."""
    need_change_and_tree(change, tree)
    return played_word(change, tree, play, ())


def longest_of(change, tree):
    """Return the longest word of all plays."""
    need_change_and_tree(change, tree)
    return longest_word(change, tree)


def longest_play(change, tree):
    """Return a play with the longest word."""
    need_change_and_tree(change, tree)
    return fullest_play(change, tree)


def calm_tree(change, tree):
    """Tell whether no play has a word that is longer than needed."""
    return len(longest_of(change, tree)) <= 2


def flicker_play(change, tree):
    """Return None if the tree is calm, else a play whose word is longer than needed."""
    if calm_tree(change, tree):
        return None
    return fullest_play(change, tree)


def tree_of(n, cover):
    """Return the tree of a cover: an or of the trees of its products."""
    if not is_size(n):
        raise LimitExceeded(5)
    need_cover(cover, n)
    if sum([max(1, literal_count(product)) for product in cover]) > 240:
        raise LimitExceeded(240)
    if not cover:
        return ("zero",)
    return joined("or", [product_tree(product) for product in cover])


def need_tree(tree, n):
    """Refuse what is not a tree of n inputs."""
    path = wrong_node(tree, n)
    if path is not None:
        raise InvalidTree(path)


def need_change_and_tree(change, tree):
    """Refuse what is not a change of 1 to 5 inputs, then what is not a tree of as many."""
    need_sized_change(change)
    need_tree(tree, len(change[0]))


def wrong_node(thing, n):
    """Return the path of the first wrong node of a tree of n inputs, or None if there is none."""
    waiting = [((), thing)]
    leaves = 0
    while waiting:
        path, node = waiting.pop()
        if not is_node(node, n) or len(path) > 7:
            return path
        parts = parts_of(node)
        if not parts:
            leaves += 1
            if leaves > 240:
                return path
        # The last one that is added is the first one to be looked at.
        for at, part in reversed(list(enumerate(parts))):
            waiting.append(((*path, at), part))
    return None


def is_node(thing, n):
    """Tell whether thing has the form of a node, whatever its parts are."""
    if not isinstance(thing, tuple) or len(thing) not in (1, 2) or not isinstance(thing[0], str):
        return False
    if len(thing) == 1:
        return thing[0] in ("one", "zero")
    head, held = thing
    if head == "in":
        return is_integer(held) and 0 <= held < n
    if head in ("and", "or"):
        return isinstance(held, tuple) and len(held) > 0
    return head == "not"


def parts_of(tree):
    """Return the parts of a node as a tuple, which is empty for a leaf."""
    if tree[0] == "not":
        return (tree[1],)
    return tree[1] if tree[0] in ("and", "or") else ()


def nodes_of(tree, path=()):
    """List the paths and the nodes of a tree, a node ahead of its parts; path is that of the tree."""
    rows = [(path, tree)]
    for at, part in enumerate(parts_of(tree)):
        rows.extend(nodes_of(part, (*path, at)))
    return rows


def with_parts(tree, parts):
    """Return the node with other parts, as many as it has."""
    if tree[0] == "not":
        return ("not", parts[0])
    return (tree[0], tuple(parts)) if parts else tree


def tree_size(tree):
    """Return how many leaves a tree has and how deep it is, for a tree of whatever size."""
    sizes = [tree_size(part) for part in parts_of(tree)]
    if not sizes:
        return (1, 1)
    return (sum([leaves for leaves, _ in sizes]), 1 + max([deep for _, deep in sizes]))


def leaf_sign(cube, leaf):
    """Return the sign that a leaf shows by the signs of a cube."""
    if leaf[0] == "in":
        return cube[leaf[1]]
    return "1" if leaf[0] == "one" else "0"


def gate_sign(head, signs):
    """Return the sign of an and or an or by the signs of its parts."""
    strong = "0" if head == "and" else "1"
    if strong in signs:
        return strong
    return "-" if "-" in signs else not_word(strong)


def tree_sign(cube, tree):
    """Return the sign that a tree shows by the signs of a cube."""
    signs = [tree_sign(cube, part) for part in parts_of(tree)]
    if not signs:
        return leaf_sign(cube, tree)
    if tree[0] == "not":
        return "-" if signs[0] == "-" else not_word(signs[0])
    return gate_sign(tree[0], signs)


def leaf_word(change, leaf):
    """Return the word of a leaf."""
    first = leaf_sign(change[0], leaf)
    last = leaf_sign(change[1], leaf)
    return first if first == last else first + last


def longest_word(change, tree):
    """Return the longest word of all plays of a tree that is known to be one."""
    words = [longest_word(change, part) for part in parts_of(tree)]
    if not words:
        return leaf_word(change, tree)
    if tree[0] == "not":
        return not_word(words[0])
    word = words[0]
    for other in words[1:]:
        word = or_words(word, other) if tree[0] == "or" else and_words(word, other)
    return word


def played_word(change, tree, play, path):
    """Return the word of a play; path is that of the tree, which errors tell."""
    if tree[0] == "not":
        return not_word(played_word(change, tree[1], play, (*path, 0)))
    parts = parts_of(tree)
    if not parts:
        if play != ():
            raise InvalidPlay(path)
        return leaf_word(change, tree)
    if not is_gate_play(play, len(parts)):
        raise InvalidPlay(path)
    weave, plays = play
    words = []
    for at, part in enumerate(parts):
        words.append(played_word(change, part, plays[at], (*path, at)))
    if not is_weave(weave, words):
        raise InvalidPlay(path)
    return woven(tree[0], words, weave)


def is_gate_play(thing, many):
    """Tell whether thing has the form of a play of a gate with so many parts."""
    if not isinstance(thing, tuple) or len(thing) != 2:
        return False
    weave, plays = thing
    return isinstance(weave, tuple) and isinstance(plays, tuple) and len(plays) == many


def is_weave(weave, words):
    """Tell whether each part occurs in the weave as often as its word turns."""
    turns = [len(word) - 1 for word in words]
    for at in weave:
        if not is_integer(at) or not 0 <= at < len(words) or turns[at] == 0:
            return False
        turns[at] -= 1
    return sum(turns) == 0


def woven(head, words, weave):
    """Return the word of a gate whose parts move on along their words as the weave says."""
    places = [0 for _ in words]
    word = gate_sign(head, [part[0] for part in words])
    for at in weave:
        places[at] += 1
        sign = gate_sign(head, [part[place] for part, place in zip(words, places)])
        if sign != word[-1]:
            word = word + sign
    return word


def fullest_play(change, tree):
    """Return a play with the longest word of a tree that is known to be one."""
    if tree[0] == "not":
        return fullest_play(change, tree[1])
    parts = parts_of(tree)
    if not parts:
        return ()
    words = [longest_word(change, part) for part in parts]
    weave = fullest_weave("0" if tree[0] == "or" else "1", words)
    return (weave, tuple([fullest_play(change, part) for part in parts]))


def fullest_weave(quiet, words):
    """Return the weave in which a gate turns most often; quiet is the sign of a part that lets the others show."""
    # So all parts become quiet first; then each one alone turns and becomes quiet again, as often
    # as it can; and those that do not end quiet leave it last.
    leaving = []
    alone = []
    coming = []
    for at, word in enumerate(words):
        if len(word) > 1:
            leaving.extend([at] * (1 if word[0] != quiet else 0))
            alone.extend([at] * (2 * (word.count(quiet) - 1)))
            coming.extend([at] * (1 if word[-1] != quiet else 0))
    return (*leaving, *alone, *coming)


def joined(head, trees):
    """Return a gate over the trees, or a tree that is alone."""
    return trees[0] if len(trees) == 1 else (head, tuple(trees))


def product_tree(product):
    """Return the tree of a product: an and of the trees of its literals."""
    literals = [("in", i) if sign == "1" else ("not", ("in", i)) for i, sign in enumerate(product) if sign != "-"]
    return joined("and", literals) if literals else ("one",)
