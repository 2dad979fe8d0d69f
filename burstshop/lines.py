"""The lines of a net in play: each leaf of their trees sees its variable with a delay of its own."""

from burstshop.signs import is_integer
from burstshop.trees import fullest_weave, gate_sign, leaf_word, nodes_of, parts_of, tree_sign, with_parts
from burstshop.words import not_word


class Lines:
    """What the leaves of some trees have seen of the variables, and the signs that the trees show by that."""

    def __init__(self, trees, signals):
        self._leaves = [input_leaves(tree) for tree in trees]
        self._trees = [numbered(tree) for tree in trees]
        # For each tree, what its leaves have seen, from left to right.
        self._seen = [due_signs(leaves, signals) for leaves in self._leaves]
        self.signs = "".join([tree_sign(seen, tree) for seen, tree in zip(self._seen, self._trees)])

    def take_over(self, other):
        """Let the leaves have seen what those of other lines of the same trees have seen."""
        self._seen = list(other._seen)
        self.signs = other.signs

    def late_leaves(self, signals):
        """List the lines and the paths of the leaves that see another sign than their variable has."""
        rows = []
        for line, leaves in enumerate(self._leaves):
            seen = self._seen[line]
            rows.extend([(line, path) for (path, variable), sign in zip(leaves, seen) if sign != signals[variable]])
        return rows

    def is_late(self, signals, line, path):
        """Tell whether line and path, which may be any values, are those of a late leaf."""
        if not is_integer(line) or not 0 <= line < len(self._leaves):
            return False
        if not isinstance(path, tuple) or not all([is_integer(at) for at in path]):
            return False
        at = place_of(self._leaves[line], path)
        return at is not None and self._seen[line][at] != signals[self._leaves[line][at][1]]

    def has_late(self, signals):
        """Tell whether some leaf is late."""
        return any([seen != due_signs(leaves, signals) for seen, leaves in zip(self._seen, self._leaves)])

    def see(self, signals, line, path):
        """Let a late leaf see its variable."""
        leaves = self._leaves[line]
        at = place_of(leaves, path)
        self._seen[line] = with_sign(self._seen[line], at, signals[leaves[at][1]])
        self.signs = with_sign(self.signs, line, tree_sign(self._seen[line], self._trees[line]))


def input_leaves(tree):
    """List the paths of the leaves that show variables, and the variables, from left to right."""
    return [(path, node[1]) for path, node in nodes_of(tree) if node[0] == "in"]


def due_signs(leaves, signals):
    """Return what the leaves see when none of them is late."""
    return "".join([signals[variable] for _, variable in leaves])


def place_of(leaves, path):
    """Return the place of the leaf at a path, or None if there is no such leaf."""
    for at, (own, _) in enumerate(leaves):
        if own == path:
            return at
    return None


def with_sign(signs, at, sign):
    """Return the signs with another one at an index."""
    return signs[:at] + sign + signs[at + 1:]


def numbered(tree):
    """Return the tree with the leaves that show variables numbered from left to right."""
    places = {path: at for at, (path, _) in enumerate(input_leaves(tree))}
    return renumbered(tree, (), places)


def renumbered(tree, path, places):
    """Return the tree, which stands at a path, with its leaves numbered by the dict places."""
    if tree[0] == "in":
        return ("in", places[path])
    return with_parts(tree, [renumbered(part, (*path, at), places) for at, part in enumerate(parts_of(tree))])


def fullest_order(change, tree):
    """List leaves, by their paths, in an order in which the tree turns most often during a change.

    Leaves that need not turn ahead of the last turn of the tree are left out.
    """
    return [path for group in leaf_groups(change, tree, ())[1] for path in group]


def leaf_groups(change, tree, path):
    """Return the longest word of a tree, which stands at a path, and for each turn of it a list of leaves.

    The last leaf of a list brings the turn about, if those ahead of it have turned before it.
    """
    if tree[0] == "not":
        word, groups = leaf_groups(change, tree[1], (*path, 0))
        return (not_word(word), groups)
    parts = parts_of(tree)
    if not parts:
        word = leaf_word(change, tree)
        return (word, [[path] for _ in word[1:]])
    return gate_groups(tree[0], [leaf_groups(change, part, (*path, at)) for at, part in enumerate(parts)])


def gate_groups(head, rows):
    """Return what leaf_groups returns for a gate, by what it returns for the parts."""
    words = [word for word, _ in rows]
    places = [0 for _ in rows]
    told = gate_sign(head, [word[0] for word in words])
    groups = []
    now = []
    # The parts have no leaf in common, so what their leaves do can be woven in any way.
    for at in fullest_weave("0" if head == "or" else "1", words):
        now.extend(rows[at][1][places[at]])
        places[at] += 1
        sign = gate_sign(head, [word[place] for word, place in zip(words, places)])
        if sign != told[-1]:
            told = told + sign
            groups.append(now)
            now = []
    return (told, groups)
