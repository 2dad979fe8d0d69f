"""Covers for a demand: grown, pruned, widened and least ones.

Good cubes are a cover for a demand exactly if they hold all its needed cubes. So, once a cover
is known to be one, it is enough to ask which needed cubes are held.
"""

from burstshop.covers import calm, is_cover, misfit, need_cover
from burstshop.errors import InvalidCover, LimitExceeded, NothingLeft
from burstshop.growth import barred, good_primes, grown, needed
from burstshop.signs import cube_holds, is_held, literal_count, outermost


def is_cover_for(demand, thing):
    """Tell whether thing is a cover that fits the table and is calm for each change."""
    if not is_cover(thing, demand.table.n) or misfit(demand.table, thing) is not None:
        return False
    return all([calm(change, thing) for change in demand.changes])


def grown_cover(demand):
    """List what the needed cubes grow to, without what another one of them holds."""
    if barred(demand) is not None:
        raise NothingLeft("cover")
    return outermost([grown(demand, cube)[0] for cube in needed(demand)])


def needless(demand, cover):
    """List the indexes of the products that can be left out, each alone."""
    need_cover_for(demand, cover)
    cubes = needed(demand)
    return [at for at in range(len(cover)) if hold_all(others(cover, at), cubes)]


def pruned(demand, cover):
    """List the products that remain when each one that can be left out is left out in turn."""
    need_cover_for(demand, cover)
    cubes = needed(demand)
    kept = []
    for at, product in enumerate(cover):
        if not hold_all(kept + list(cover[at + 1:]), cubes):
            kept.append(product)
    return kept


def widened(demand, cover):
    """List for each product the first good prime that holds it."""
    need_cover_for(demand, cover)
    primes = good_primes(demand)
    return [holders(primes, product)[0] for product in cover]


def small_cover(demand):
    """List the products of a small cover for the demand."""
    return pruned(demand, widened(demand, grown_cover(demand)))


def essentials(demand):
    """List the good primes that are the only ones to hold some needed cube, ascending."""
    primes = good_primes(demand)
    alone = []
    for cube in needed(demand):
        outer = holders(primes, cube)
        if len(outer) == 1:
            alone.append(outer[0])
    return [prime for prime in primes if prime in alone]


def least_covers(demand):
    """List all covers for the demand with the fewest products and, among these, the fewest literals."""
    if barred(demand) is not None:
        return []
    primes = good_primes(demand)
    if len(primes) > 14:
        raise LimitExceeded(14)
    covers = prime_covers(primes, needed(demand))
    sizes = [cover_size(cover) for cover in covers]
    least = min(sizes)
    return sorted([cover for cover, size in zip(covers, sizes) if size == least])


def least_size(demand):
    """Return the numbers of products and literals of the least covers, or None if there is none."""
    covers = least_covers(demand)
    return cover_size(covers[0]) if covers else None


def prime_covers(primes, cubes):
    """List all lists of primes that hold all the cubes."""
    # For each choice of primes, the cubes that it holds are kept as the ones of a number.
    choices = [([], 0)]
    for prime in primes:
        own = held_number(prime, cubes)
        choices = choices + [([*chosen, prime], held | own) for chosen, held in choices]
    every = (1 << len(cubes)) - 1
    return [chosen for chosen, held in choices if held == every]


def held_number(prime, cubes):
    """Return a number whose digit in base two at an index is 1 if the prime holds the cube there."""
    number = 0
    for cube in cubes:
        number = number * 2 + (1 if cube_holds(prime, cube) else 0)
    return number


def cover_size(cover):
    """Return the number of products and the number of all their literals."""
    return (len(cover), sum([literal_count(product) for product in cover]))


def others(cover, at):
    """List the products of a cover but the one at an index."""
    return [product for j, product in enumerate(cover) if j != at]


def holders(primes, cube):
    """List the primes that hold the cube."""
    return [prime for prime in primes if cube_holds(prime, cube)]


def hold_all(products, cubes):
    """Tell whether each of the cubes is held by a product."""
    return all([is_held(cube, products) for cube in cubes])


def need_cover_for(demand, cover):
    """Refuse what is not a cover, then what is not a cover for the demand."""
    need_cover(cover, demand.table.n)
    if not is_cover_for(demand, cover):
        raise InvalidCover(-2)
