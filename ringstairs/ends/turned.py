"""Rests of deals, chains backward and with flipped rings, least degrees, and two chips of richness 1."""

from ringstairs.basics import check_between, check_digits
from ringstairs.fill.boxes import box_of
from ringstairs.fill.counts import MOST_K
from ringstairs.fill.fillings import some_filling
from ringstairs.heap.heaps import box
from ringstairs.link.chains import check_chain, check_deal, combined, order_of, told_sum
from ringstairs.link.classes import is_class
from ringstairs.rich.richness import canonical, richness_at


def rest_of(chain, deal):
    """The written deal with two chips at each joint, less the deal."""
    check_chain(chain)
    check_deal(chain, deal)
    return told_sum(chain, [(1, canonical(chain)), (-1, deal)])


def backward(chain, deal):
    """The pair of the chain of the same rings from right to left and of the written deal on it."""
    check_chain(chain)
    check_deal(chain, deal)
    last = len(chain) - 1
    moved = {(last - j, (chain[j][1] - p) % chain[j][0]): deal[(j, p)] for j, p in deal}
    back = chain[::-1]
    return (back, told_sum(back, [(1, moved)]))


def flipped_chain(chain, index):
    """The chain in which the ring with the index is turned over."""
    places, door = chain[index]
    return chain[:index] + ((places, places - door),) + chain[index + 1:]


def flipped_deal(chain, deal, index):
    """The written deal, with integers of any length, on the chain in which the ring is turned over."""
    moved = {(j, -p % chain[j][0] if j == index else p): deal[(j, p)] for j, p in deal}
    return combined(flipped_chain(chain, index), [(1, moved)])


def flipped(chain, deal, index):
    """The pair of the chain in which one ring is turned over and of the written deal on it."""
    check_chain(chain)
    check_deal(chain, deal)
    check_between(index, 0, len(chain) - 1)
    moved = flipped_deal(chain, deal, index)
    check_digits(list(moved.values()))
    return (flipped_chain(chain, index), moved)


def check_wanted(chain, k):
    """Refuse what is no chain, or no number to ask for."""
    check_chain(chain)
    check_between(k, 0, MOST_K)


def highest_filling(chain, k):
    """A filling of the box of k + 1 columns with as many rows as can be filled, () if it has none."""
    # Letters rise along the first row and the last column.
    for rows in range(len(chain) - k, 0, -1):
        filling = some_filling(chain, box(k + 1, rows))
        if filling is not None:
            return filling
    return ()


def degree_with(chain, k, filling):
    """The least degree that a filling of the highest box tells."""
    rows = len(filling[0]) if filling else 0
    return len(chain) + k - rows


def least_degree(chain, k):
    """The least degree of a class with a richness of at least k."""
    check_wanted(chain, k)
    return degree_with(chain, k, highest_filling(chain, k))


def least_class(chain, k):
    """Any class of the least degree with a richness of at least k."""
    check_wanted(chain, k)
    filling = highest_filling(chain, k)
    places = box_of(chain, tuple([len(column) for column in filling]), filling)
    return (degree_with(chain, k, filling), tuple([0 if place is None else place for place in places]))


def is_least_class(chain, k, value):
    """Whether the value is a class of the least degree with a richness of at least k."""
    check_wanted(chain, k)
    if not is_class(chain, value) or value[0] != degree_with(chain, k, highest_filling(chain, k)):
        return False
    return richness_at(chain, value[0], value[1]) >= k


def has_two_sides(chain):
    """Whether all rings of what surely is a chain, but the first and the last one, have the order 2."""
    return all([order_of(ring) == 2 for ring in chain[1:-1]])


def is_two_sided(chain):
    """Whether some class of the degree 2 has a richness of at least 1."""
    check_chain(chain)
    return has_two_sides(chain)


def two_sides(chain):
    """The tuples of all classes of the degree 2 with a richness of at least 1."""
    check_chain(chain)
    if len(chain) == 1:
        return tuple([(place,) for place in range(chain[0][0])])
    if not has_two_sides(chain):
        return ()
    # Ring by ring a square comes on top of the first column, and one a row below on top of the second one.
    places = [-j * ring[1] % ring[0] for j, ring in enumerate(chain)]
    last = len(chain) - 1
    places[last] = (2 - last) * chain[last][1] % chain[last][0]
    return (tuple(places),)
