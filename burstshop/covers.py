"""Covers: an OR of products, whose wires turn one by one during a change."""

from burstshop.changes import need_sized_change
from burstshop.cubes import is_cube
from burstshop.errors import InvalidCover, InvalidOrder, InvalidPoint, LimitExceeded
from burstshop.signs import cube_holds, cube_span, cubes_meet, is_held, is_integer, is_sized, sign_rows


def is_cover(thing, n):
    """Tell whether thing is a cover of n inputs."""
    if not isinstance(thing, (list, tuple)) or len(thing) > 100:
        return False
    return all([is_cube(product, n) for product in thing])


def covered(point, cover):
    """Tell whether a product of the cover contains the point."""
    if not is_sized(point, "01"):
        raise InvalidPoint(0)
    need_cover(cover, len(point))
    return is_held(point, cover)


def misfit(table, cover):
    """Return the least point that is on and not covered or off and covered, or None."""
    need_cover(cover, table.n)
    for point, sign in zip(sign_rows(table.n, "01"), table.text):
        if sign != "-" and is_held(point, cover) != (sign == "1"):
            return point
    return None


def wires(change, cover):
    """List the wires that turn during a change, ascending."""
    need_change_and_cover(change, cover)
    return [wire for j, product in enumerate(cover) for wire in product_wires(change, j, product)]


def is_order(change, cover, thing):
    """Tell whether thing is an order of the wires."""
    return order_fault(wires(change, cover), thing) is None


def played(change, cover, order):
    """Return the word of an order."""
    fault = order_fault(wires(change, cover), order)
    if fault is not None:
        raise InvalidOrder(fault)
    start, end = change
    missing = [literals_against(product, start) for product in cover]
    word = or_sign(missing)
    for j, i in order:
        missing[j] += -1 if cover[j][i] == end[i] else 1
        sign = or_sign(missing)
        if sign != word[-1]:
            word = word + sign
    return word


def longest(change, cover):
    """Return the longest word of all orders."""
    words = product_words(change, cover)
    if "1" in words:
        return "1"
    head = "1" if "10" in words else ""
    tail = "1" if "01" in words else ""
    return head + "01" * words.count("010") + "0" + tail


def product_words(change, cover):
    """List the longest word of each product alone."""
    need_change_and_cover(change, cover)
    return [product_word(change, product) for product in cover]


def longest_order(change, cover):
    """List the wires in an order that has the longest word."""
    words = product_words(change, cover)
    order = []
    # The OR turns most if the falling products fall first, each brief one then shows itself
    # while all others are 0, and the rising ones rise last.
    for word in ("10", "010", "01", "0", "1"):
        for j, product in enumerate(cover):
            if words[j] == word:
                order.extend(showing_wires(change, j, product))
    return order


def flicker(change, cover):
    """Return None if the cover is calm, else an order whose word is longer than needed."""
    if calm(change, cover):
        return None
    return longest_order(change, cover)


def calm(change, cover):
    """Tell whether no order has a word that is longer than needed."""
    return len(longest(change, cover)) <= 2


def why(change, cover):
    """Tell why the cover is not calm, or return None if it is."""
    need_change_and_cover(change, cover)
    start, end = change
    room = cube_span(start, end)
    if is_held(start, cover) and is_held(end, cover):
        return None if is_held(room, cover) else ("alone",)
    # At most one end is covered here, so a product that contains an end contains the one that is on.
    for j, product in enumerate(cover):
        if cubes_meet(product, room) and not cube_holds(product, start) and not cube_holds(product, end):
            return ("meets", j)
    return None


def orders(change, cover):
    """Yield every order, ascending."""
    turns = wires(change, cover)
    if len(turns) > 6:
        raise LimitExceeded(6)
    for order in arrangements(turns):
        yield order


def need_cover(cover, n):
    """Refuse what is not a cover of n inputs."""
    if not isinstance(cover, (list, tuple)) or len(cover) > 100:
        raise InvalidCover(-1)
    for at, product in enumerate(cover):
        if not is_cube(product, n):
            raise InvalidCover(at)


def need_change_and_cover(change, cover):
    """Refuse what is not a change of 1 to 5 inputs, then what is not a cover of as many."""
    need_sized_change(change)
    need_cover(cover, len(change[0]))


def product_wires(change, j, product):
    """List the wires that lead to the product j and turn, ascending."""
    start, end = change
    return [(j, i) for i, sign in enumerate(product) if sign != "-" and start[i] != end[i]]


def showing_wires(change, j, product):
    """List the turning wires of the product j such that it becomes 1 on the way if it can."""
    start = change[0]
    turns = product_wires(change, j, product)
    agreeing = [wire for wire in turns if product[wire[1]] != start[wire[1]]]
    return agreeing + [wire for wire in turns if wire not in agreeing]


def product_word(change, product):
    """Return the longest word of one product."""
    start, end = change
    before = cube_holds(product, start)
    after = cube_holds(product, end)
    if before and after:
        return "1"
    if before:
        return "10"
    if after:
        return "01"
    return "010" if cubes_meet(product, cube_span(start, end)) else "0"


def order_fault(turns, thing):
    """Return None if thing is an order of the wires, else the place of its first fault."""
    if not isinstance(thing, (list, tuple)):
        return -1
    waiting = {wire: True for wire in turns}
    for at, item in enumerate(thing):
        if not is_pair(item) or item not in waiting:
            return at
        del waiting[item]
    return len(thing) if waiting else None


def is_pair(thing):
    """Tell whether thing is a tuple of two integers."""
    if not isinstance(thing, tuple) or len(thing) != 2:
        return False
    return is_integer(thing[0]) and is_integer(thing[1])


def literals_against(product, point):
    """Count the literals of the product that do not agree with the point."""
    return len([sign for sign, seen in zip(product, point) if sign not in ("-", seen)])


def or_sign(missing):
    """Return the sign of the OR, by the number of literals that each product still misses."""
    return "1" if 0 in missing else "0"


def arrangements(items):
    """List all arrangements of the items, ordered as the items are."""
    rows = [[]]
    for _ in items:
        rows = [[*row, item] for row in rows for item in items if item not in row]
    return rows
