"""The richness of deals on chains, and the papers that show it."""

from ringstairs.basics import check_from, is_between
from ringstairs.heap.heaps import has_box, heaps_of, labels_along
from ringstairs.link.chains import (
    check_chain, check_deal, combined, lets, lies_dealt, right_name, told_sum, written_name,
)
from ringstairs.link.classes import class_at
from ringstairs.rich.cuts import class_cuts, ring_chips


def richness_at(chain, degree, places):
    """The richness of what surely is a class, also of one with a longer degree."""
    heap = heaps_of(chain, places)[-1]
    short = len(chain) - degree
    k = max(0, 1 - short)
    while has_box(heap, k + 1, short + k):
        k += 1
    return k - 1


def richness_of(chain, deal):
    """The richness of what surely is a deal."""
    degree, places = class_at(chain, deal)
    return richness_at(chain, degree, places)


def richness(chain, deal):
    """The richness of the deal."""
    check_chain(chain)
    check_deal(chain, deal)
    return richness_of(chain, deal)


def check_asked(chain, deal, k):
    """Refuse what is no chain, no deal on it, or no number to ask for."""
    check_chain(chain)
    check_deal(chain, deal)
    check_from(k, 0)


def filling_of(chain, deal, k):
    """Any filling for k of the deal, None if it is not so rich."""
    check_asked(chain, deal, k)
    degree, places = class_at(chain, deal)
    rows = len(chain) - degree + k
    if rows < 1:
        return ()
    columns = labels_along(heaps_of(chain, places))
    if k >= len(columns) or len(columns[k]) < rows:
        return None
    return tuple([tuple(column[:rows]) for column in columns[:k + 1]])


def is_filling_of(chain, deal, k, value):
    """Whether the value is a filling for k of the deal."""
    check_asked(chain, deal, k)
    degree, places = class_at(chain, deal)
    rows = len(chain) - degree + k
    if not isinstance(value, tuple):
        return False
    if rows < 1:
        return len(value) == 0
    if len(value) != k + 1:
        return False
    for at, column in enumerate(value):
        if not isinstance(column, tuple) or len(column) != rows:
            return False
        if not all([is_between(index, 0, len(chain) - 1) for index in column]):
            return False
        if not is_risen(column, value[at - 1] if at > 0 else None):
            return False
        if not all([lets(chain[index], places[index], at - row) for row, index in enumerate(column)]):
            return False
    return True


def is_risen(column, ahead):
    """Whether the indices rise along a column, and row by row from the column ahead of it."""
    if any([column[row] >= column[row + 1] for row in range(len(column) - 1)]):
        return False
    return ahead is None or all([low < high for low, high in zip(ahead, column)])


def ring_taking(ring, chips, place):
    """As few chips as leave a ring alone unable to pay: a dict from its places.

    Behind so many chips as there are more than none, the sum of the places must
    not be 0: if it is 0, the last chip comes from the place 1.
    """
    if chips < 0 or (chips == 0 and place != 0):
        return {}
    if chips == 0:
        return {0: 1}
    if place != 0:
        return {0: chips}
    return {0: chips - 1, 1: 1}


def least_taking(chain, degree, places, cuts):
    """The parts of a taking behind which no ring can pay that is cut out by the cuts."""
    parts = []
    left = 0
    for index, right in enumerate(list(cuts) + [0]):
        ring = chain[index]
        chips = ring_chips(chain, degree, index) + left + right
        taken = ring_taking(ring, chips, (places[index] + left * ring[1]) % ring[0])
        parts.append((1, {(index, spot): taken[spot] for spot in taken}))
        left = -right - 1
    return parts


def taking(chain, deal, k):
    """Any paper against k of the deal, None if it is so rich."""
    check_asked(chain, deal, k)
    degree, places = class_at(chain, deal)
    least, cuts = class_cuts(chain, degree, places, 0, 0)
    if least > k:
        return None
    # What cannot pay cannot do so with fewer chips either.
    rest = (k - least, {right_name(chain): 1})
    return told_sum(chain, least_taking(chain, degree, places, cuts) + [rest])


def is_taking(chain, deal, k, value):
    """Whether the value is a paper against k of the deal."""
    check_asked(chain, deal, k)
    if not lies_dealt(chain, value):
        return False
    for place in value:
        if written_name(chain, place) != place or value[place] <= 0:
            return False
    if sum(value.values()) != k:
        return False
    return richness_of(chain, combined(chain, [(1, deal), (-1, value)])) == -1


def canonical(chain):
    """The written deal with two chips at each joint, and no others."""
    check_chain(chain)
    return {(index, 0): 2 for index in range(len(chain) - 1)}
