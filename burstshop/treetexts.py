"""The texts of trees."""

from burstshop.scan import Scan
from burstshop.trees import need_tree, parts_of

SIGNS = {"one": "1", "zero": "0", "not": "!", "and": "&", "or": "|"}
HEADS = {"1": "one", "0": "zero", "!": "not", "&": "and", "|": "or"}


def write_tree(tree):
    """Return the text of a tree."""
    need_tree(tree, 5)
    return tree_text(tree)


def read_tree(text):
    """Return the tree that a text tells."""
    scan = Scan(text)
    tree = scanned_tree(scan)
    scan.finish()
    need_tree(tree, 5)
    return tree


def tree_text(tree):
    """Return the text of a tree that is known to be one."""
    head = tree[0]
    if head == "in":
        return f"x{tree[1]}"
    texts = ",".join([tree_text(part) for part in parts_of(tree)])
    return SIGNS[head] + (f"({texts})" if head in ("and", "or") else texts)


def scanned_tree(scan):
    """Read a tree of whatever size, so without recursion."""
    # The nodes whose parts are still to come, each with the parts that it has.
    opened = []
    tree = None
    while tree is None:
        sign = scan.take("x01!&|")
        if sign == "x":
            tree = closed(scan, opened, ("in", int(scan.take("01234"))))
        elif sign in "01":
            tree = closed(scan, opened, (HEADS[sign],))
        else:
            if sign != "!":
                scan.take("(")
            opened.append((HEADS[sign], []))
    return tree


def closed(scan, opened, tree):
    """Close the nodes that end with a tree: return the last one if all are closed, else None."""
    while opened:
        head, parts = opened[-1]
        parts.append(tree)
        if head == "not":
            tree = (head, tree)
        elif scan.take(",)") == ",":
            return None
        else:
            tree = (head, tuple(parts))
        opened.pop()
    return tree
