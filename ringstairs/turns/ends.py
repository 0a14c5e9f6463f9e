"""The map of a chain: what chips at both ends do to the richness."""

from math import lcm

from ringstairs.basics import check_between, check_digits, check_integer
from ringstairs.errors import TooMany
from ringstairs.link.chains import check_chain, order_of
from ringstairs.link.classes import check_class, check_places

MOST_WINDOW = 200
MOST_PERIOD = 10000
MOST_GAPS = 2000


def letter_of(ring, place):
    """The letter of what surely is a ring with its place, None for a mute place."""
    order = order_of(ring)
    for c in range(order):
        if (c * ring[1] + place) % ring[0] == 0:
            return (order, c)
    return None


def ring_letters(chain, places):
    """The tuple of the letters of all rings, None for a mute place."""
    check_chain(chain)
    check_places(chain, places)
    return tuple([letter_of(ring, place) for ring, place in zip(chain, places)])


def map_values(chain, degree, places, first, last):
    """The list of the values of the map of a class from first to last, with integers of any length.

    What a ring does wrong at the edges comes one place nearer with each ring.
    """
    many = len(chain)
    low = first - many
    values = [at + degree - many for at in range(low, last + many + 1)]
    for index in reversed(range(many)):
        told = letter_of(chain[index], places[index])
        if told is not None:
            for at in range((told[1] - low) % told[0], len(values) - 1, told[0]):
                if values[at] < values[at + 1]:
                    values[at], values[at + 1] = values[at + 1], values[at]
    return values[many:len(values) - many]


def check_class_at(chain, degree, places):
    """Refuse what is no class of a chain."""
    check_chain(chain)
    check_integer(degree)
    check_places(chain, places)


def value_at(chain, degree, places, index):
    """The value of the map of the class at an index."""
    check_class_at(chain, degree, places)
    check_integer(index)
    return map_values(chain, degree, places, index, index)[0]


def index_of(chain, degree, places, target):
    """The index at which the map of the class has the target as its value."""
    check_class_at(chain, degree, places)
    check_integer(target)
    first = target - degree
    values = map_values(chain, degree, places, first, first + 2 * len(chain))
    return first + values.index(target)


def window(chain, degree, places, first, last):
    """The tuple of the values of the map of the class from first to last."""
    check_class_at(chain, degree, places)
    check_integer(first)
    check_between(last, first, first + MOST_WINDOW - 1)
    values = map_values(chain, degree, places, first, last)
    check_digits(values)
    return tuple(values)


def table_entry(chain, degree, places, a, b):
    """The number h(a, b) of what surely is a class.

    The values at the integers from this one on are at least -b, and below these
    some are for twice as many integers as there are rings.
    """
    sure = 2 * len(chain) - b - degree
    values = map_values(chain, degree, places, sure - 2 * len(chain), min(a, sure - 1))
    return max(0, a - sure + 1) + len([value for value in values if value >= -b])


def end_table(chain, degree, places, a, b):
    """The number h(a, b) of the class, by its map."""
    check_class_at(chain, degree, places)
    check_integer(a)
    check_integer(b)
    return table_entry(chain, degree, places, a, b)


def gaps_of(chain, degree, places):
    """The list of the pairs (i, value) with i up to 0 and a value from 0 on, i ascending."""
    check_class_at(chain, degree, places)
    if table_entry(chain, degree, places, 0, 0) > MOST_GAPS:
        raise TooMany(MOST_GAPS)
    first = -max(degree, 0)
    values = map_values(chain, degree, places, first, 0)
    return [(first + at, value) for at, value in enumerate(values) if value >= 0]


def gaps_at_left(chain, degree, places):
    """The ascending tuple of the numbers of chips behind which one more taken at the left end makes poorer."""
    return tuple(sorted([-i for i, _ in gaps_of(chain, degree, places)]))


def gaps_at_right(chain, degree, places):
    """The ascending tuple of the numbers of chips behind which one more taken at the right end makes poorer."""
    return tuple(sorted([value for _, value in gaps_of(chain, degree, places)]))


def check_two_classes(chain, one, other_chain, other):
    """Refuse what is not two classes of chains whose maps have a short period."""
    check_chain(chain)
    check_class(chain, one)
    check_chain(other_chain)
    check_class(other_chain, other)
    if period_of_rings(chain + other_chain) > MOST_PERIOD:
        raise TooMany(MOST_PERIOD)


def period_of_rings(rings):
    """The least common multiple of the orders of rings."""
    period = 1
    for ring in rings:
        period = lcm(period, order_of(ring))
    return period


def first_unlike(chain, one, other_chain, other):
    """The least integer from 0 on at which the maps of two classes differ, None if there is none."""
    last = period_of_rings(chain + other_chain) - 1
    values = map_values(chain, one[0], one[1], 0, last)
    others = map_values(other_chain, other[0], other[1], 0, last)
    for i, (value, met) in enumerate(zip(values, others)):
        if value != met:
            return i
    return None


def are_one_map(chain, one, other_chain, other):
    """Whether the maps of both classes are equal."""
    check_two_classes(chain, one, other_chain, other)
    return first_unlike(chain, one, other_chain, other) is None


def parting(chain, one, other_chain, other):
    """The least integer from 0 on at which the maps of both classes differ, None if there is none."""
    check_two_classes(chain, one, other_chain, other)
    return first_unlike(chain, one, other_chain, other)
