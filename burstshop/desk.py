"""The desk: a place at which a net for a machine is made, with a history of what was done."""

from burstshop.books import book_of
from burstshop.codes import need_coding, variable_count
from burstshop.errors import InvalidNumber, NothingLeft
from burstshop.machines import need_sound
from burstshop.nets import Net, judged
from burstshop.rules import rewritten
from burstshop.signs import is_integer
from burstshop.trees import need_tree, nodes_of, parts_of, tree_of


class Desk:
    """A machine, a coding or None, trees or None, and the deeds that can be undone and done again."""

    def __init__(self, machine):
        need_sound(machine)
        self.machine = machine
        self.coding = None
        self._trees = None
        # The codings and trees from before each deed, and from before each undoing.
        self._past = []
        self._undone = []

    def __len__(self):
        return len(all_leaves(self._trees))

    def __getitem__(self, at):
        self._need_tree_of(at)
        return self._trees[at]

    def __setitem__(self, at, worth):
        self._need_tree_of(at)
        need_tree(worth, variable_count(self.machine, self.coding))
        self._put(self.coding, self._trees[:at] + (worth,) + self._trees[at + 1:])

    def __iter__(self):
        raise TypeError("a desk is not iterated over")

    def __contains__(self, function):
        return self._trees is not None and is_integer(function) and 0 <= function < len(self._trees)

    def code(self, coding):
        """Set the coding and take the trees away."""
        need_coding(self.machine, coding)
        self._put(tuple(coding), None)

    def build(self):
        """Set the trees to those of small covers."""
        if self.coding is None:
            raise NothingLeft("coding")
        many = variable_count(self.machine, self.coding)
        self._put(self.coding, tuple([tree_of(many, cover) for cover in book_of(self.machine, self.coding)]))

    def rewrite(self, function, path, rule):
        """Rewrite the tree of a function."""
        self[function] = rewritten(self[function], path, rule)

    def net(self):
        """Return the net."""
        self._need_trees()
        return Net(self.machine, self.coding, self._trees)

    def judged(self):
        """Return the first fault of the net, or None."""
        return judged(self.net())

    def is_right(self):
        """Tell whether there is a net and it has no fault."""
        return self._trees is not None and self.judged() is None

    def undo(self):
        """Take back the last deed."""
        if not self._past:
            raise NothingLeft("undo")
        self._undone.append((self.coding, self._trees))
        self.coding, self._trees = self._past.pop()

    def redo(self):
        """Do again the deed that was taken back last."""
        if not self._undone:
            raise NothingLeft("redo")
        self._past.append((self.coding, self._trees))
        self.coding, self._trees = self._undone.pop()

    def twin(self):
        """Return a new desk with the same machine, coding and trees, without a history."""
        other = Desk(self.machine)
        other.coding = self.coding
        other._trees = self._trees
        return other

    def attempt(self, deeds):
        """Do all of some deeds, or none if one of them cannot be done."""
        other = self._behind(deeds)
        self.coding = other.coding
        self._trees = other._trees
        self._past = other._past
        self._undone = other._undone

    def trial(self, deeds):
        """Return what judged would tell behind some deeds, or None if there were no trees."""
        other = self._behind(deeds)
        return None if other._trees is None else other.judged()

    def _put(self, coding, trees):
        """Do a deed."""
        self._past.append((self.coding, self._trees))
        self._undone = []
        self.coding = coding
        self._trees = trees

    def _need_trees(self):
        """Refuse a desk without trees."""
        if self._trees is None:
            raise NothingLeft("trees")

    def _need_tree_of(self, function):
        """Refuse what is not the number of a function, then a desk without trees."""
        many = len(self.machine.outputs)
        if self.coding is not None:
            many = many + len(self.coding[0])
        if not is_integer(function) or not 0 <= function < many:
            raise InvalidNumber()
        self._need_trees()

    def _behind(self, deeds):
        """Return another desk that is as this one, history and all, would be behind some deeds."""
        other = self.twin()
        other._past = list(self._past)
        other._undone = list(self._undone)
        for deed in deeds:
            do_deed(other, deed)
        return other


def do_deed(desk, deed):
    """Do a deed that is told by a tuple of a word and what belongs to it."""
    word = deed[0]
    if word == "code":
        desk.code(deed[1])
    elif word == "build":
        desk.build()
    elif word == "set":
        desk[deed[1]] = deed[2]
    elif word == "rewrite":
        desk.rewrite(deed[1], deed[2], deed[3])
    elif word == "undo":
        desk.undo()
    elif word == "redo":
        desk.redo()
    else:
        desk.attempt(deed[1])


def all_leaves(trees):
    """List the leaves of some trees; None stands for no trees."""
    if trees is None:
        return []
    return [node for tree in trees for _, node in nodes_of(tree) if not parts_of(node)]
