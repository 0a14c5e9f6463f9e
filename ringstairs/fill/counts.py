"""How many classes have a heap or a richness, and how many standard fillings a heap has."""

from math import factorial

from ringstairs.basics import check_between, check_integer
from ringstairs.errors import TooMany
from ringstairs.fill.within import steps_within
from ringstairs.heap.heaps import check_heap, has_box, hook_at, lengths_of
from ringstairs.link.chains import check_chain, order_of

MOST_CUT = 6
MOST_K = 40
MOST_STANDARD = 200
MOST_DOUBLED = 10


def tuples_of(chain):
    """How many tuples of places there are."""
    many = 1
    for ring in chain:
        many = many * ring[0]
    return many


def cut_heaps(chain, columns, rows):
    """The dict from each cut heap of some tuple to how many tuples have it, in no order."""
    whole = (rows,) * columns if rows > 0 else ()
    many = {(): 1}
    for ring in chain:
        more = {}
        for heap in many:
            steps = steps_within(whole, heap, order_of(ring))
            # Each rest of the diagonals is let by just one place; at all others the cut heap stays.
            for made in steps:
                more[made] = more.get(made, 0) + many[heap]
            if len(steps) < ring[0]:
                more[heap] = more.get(heap, 0) + many[heap] * (ring[0] - len(steps))
        many = more
    return many


def classes_by_heap(chain, columns, rows):
    """The dict from each cut heap of some tuple to how many tuples have it."""
    check_chain(chain)
    check_between(columns, 0, MOST_CUT)
    check_between(rows, 0, MOST_CUT)
    many = cut_heaps(chain, columns, rows)
    return {heap: many[heap] for heap in sorted(many)}


def classes_at_least(chain, degree, k):
    """How many classes of the degree have a richness of at least k."""
    check_chain(chain)
    check_integer(degree)
    check_between(k, 0, MOST_K)
    columns = k + 1
    rows = len(chain) - degree + k
    if rows < 1:
        return tuples_of(chain)
    if columns + rows > len(chain) + 1:
        return 0
    return cut_heaps(chain, columns, rows).get((rows,) * columns, 0)


def least_richness(chain, degree):
    """The richness that each class of the degree has at least."""
    return max(-1, degree - len(chain))


def richness_in(heap, short, least):
    """The richness of a heap for which a box has so many rows more than k."""
    k = least + 1
    while has_box(heap, k + 1, short + k):
        k += 1
    return k - 1


def classes_by_richness(chain, degree):
    """The dict from each richness that some class of the degree has to how many classes have it."""
    check_chain(chain)
    check_integer(degree)
    least = least_richness(chain, degree)
    if degree < 0 or degree > 2 * len(chain) - 2:
        return {least: tuples_of(chain)}
    short = len(chain) - degree
    # The boxes for all k that a heap can hold are held by the one for the greatest k.
    many = cut_heaps(chain, degree // 2 + 1, short + degree // 2)
    found = {}
    for heap in many:
        k = richness_in(heap, short, least)
        found[k] = found.get(k, 0) + many[heap]
    return {k: found[k] for k in sorted(found)}


def standard_count(heap):
    """How many standard fillings what surely is a heap has."""
    lengths = lengths_of(heap)
    product = 1
    for column, height in enumerate(heap):
        for row in range(height):
            product = product * hook_at(heap, lengths, column, row)
    return factorial(sum(heap)) // product


def standard_fillings(heap):
    """How many standard fillings the heap has."""
    check_heap(heap)
    if sum(heap) > MOST_STANDARD:
        raise TooMany(MOST_STANDARD)
    return standard_count(heap)


def doubled_fillings(columns, rows):
    """How many doubled fillings the box of so many columns and rows has."""
    check_between(columns, 1, MOST_DOUBLED)
    check_between(rows, 1, MOST_DOUBLED)
    return rows * standard_count((rows + 1,) + (rows,) * (columns - 1))
