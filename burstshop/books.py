"""Books: a cover for each function of a circuit, and the codings for which there is one."""

from burstshop.codes import clash, function_count, need_coding, need_no_clash, state_count, step_rows, told_signs
from burstshop.codes import variable_count
from burstshop.errors import InvalidNumber, LimitExceeded
from burstshop.growth import Demand, barred
from burstshop.least import is_cover_for, small_cover
from burstshop.machines import met, need_sound
from burstshop.signs import is_integer, sign_rows
from burstshop.tables import Table


def demand_of(machine, coding, function):
    """Return the demand of a function: the signs that it has to show, and the steps as the changes to keep."""
    need_coding(machine, coding)
    if not is_integer(function) or not 0 <= function < function_count(machine, coding):
        raise InvalidNumber()
    need_no_clash(machine, coding)
    return demands_of(machine, coding)[function]


def book_of(machine, coding):
    """List a small cover for each function."""
    need_no_clash(machine, coding)
    return [small_cover(demand) for demand in demands_of(machine, coding)]


def is_book(machine, coding, thing):
    """Tell whether thing has a cover for the demand of each function."""
    need_coding(machine, coding)
    if not isinstance(thing, (list, tuple)) or len(thing) != function_count(machine, coding):
        return False
    if clash(machine, coding) is not None:
        return False
    return all([is_cover_for(demand, cover) for demand, cover in zip(demands_of(machine, coding), thing)])


def codings(machine, wires):
    """List the codings with so many wires for which there is a book, ascending."""
    need_sound(machine)
    if not is_integer(wires) or not 0 <= wires <= 2:
        raise InvalidNumber()
    need_few_states(machine)
    return [coding for coding in possible_codings(machine, wires) if has_book(machine, coding)]


def fewest_wires(machine):
    """Return the least number of wires with which there is a coding that has a book, or None."""
    for wires in range(3):
        if codings(machine, wires):
            return wires
    return None


def need_few_states(machine):
    """Refuse a machine with a fault, then one with more than 4 reached states."""
    if len(met(machine)) > 4:
        raise LimitExceeded(4)


def demands_of(machine, coding):
    """List the demands of all functions, for a coding without a clash."""
    rows = step_rows(machine, coding)
    points = sign_rows(variable_count(machine, coding), "01")
    changes = []
    for _, _, change, _, _ in rows:
        if change not in changes:
            changes.append(change)
    demands = []
    for function in range(function_count(machine, coding)):
        signs = told_signs(rows, function)[0]
        demands.append(Demand(Table("".join([signs.get(point, "-") for point in points])), changes))
    return demands


def possible_codings(machine, wires):
    """List all codings in which the state 0 and each state that is not reached has no "1", ascending."""
    reached = met(machine)
    rows = [[]]
    for state in range(state_count(machine)):
        codes = sign_rows(wires, "01") if state in reached and state != 0 else ["0" * wires]
        rows = [[*row, code] for row in rows for code in codes]
    return rows


def has_book(machine, coding):
    """Tell whether there is a cover for the demand of each function."""
    if clash(machine, coding) is not None:
        return False
    return all([barred(demand) is None for demand in demands_of(machine, coding)])
