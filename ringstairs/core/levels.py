"""Levels: the few integers that tell how rich the classes of a chain of one order are."""

from ringstairs.basics import SHORT_DIGITS, are_short, check_between, is_short
from ringstairs.core.cores import MAX_ORDER
from ringstairs.core.words import growing_word, last_letters
from ringstairs.errors import InvalidChain, InvalidNumber, InvalidOperation, TooMany
from ringstairs.heap.heaps import box, union_of
from ringstairs.link.chains import MOST_RINGS, check_chain, check_deal, order_of
from ringstairs.link.classes import class_at, is_class
from ringstairs.turns.ends import map_values

MOST_DISTANCE = 12


def is_levels(value):
    """Whether the value is levels."""
    if not isinstance(value, tuple) or not 2 <= len(value) <= MAX_ORDER:
        return False
    if not are_short(value):
        return False
    return all([value[at] <= value[at + 1] for at in range(len(value) - 1)])


def check_levels(levels):
    """Refuse what is no levels."""
    if not is_levels(levels):
        raise InvalidOperation("no levels")


def check_like_levels(levels, many):
    """Refuse what is not so many levels."""
    check_levels(levels)
    if len(levels) != many:
        raise InvalidOperation("too few or too many levels")


def check_one_order(chain):
    """Refuse what is no chain whose rings all have one order."""
    check_chain(chain)
    if any([order_of(ring) != order_of(chain[0]) for ring in chain]):
        raise InvalidChain("rings of unlike orders")


def distance_in(levels):
    """The distance of what surely is levels."""
    many = len(levels)
    return sum([max(0, levels[late] - levels[early] - 1) for late in range(many) for early in range(late)])


def distance(levels):
    """The distance of the levels."""
    check_levels(levels)
    return distance_in(levels)


def columns_at(levels, c):
    """How many columns the box has that levels ask for at c."""
    return sum([max(0, level + c + 1) for level in levels])


def rows_at(levels, c):
    """How many rows the box has that levels ask for at c."""
    return sum([max(0, -level - c - 1) for level in levels])


def level_richness(levels, c):
    """The richness with c times k chips more at the right end, of classes with these levels."""
    check_levels(levels)
    if not is_short(c):
        raise InvalidNumber(c)
    return columns_at(levels, c) - 1


def are_above(one, other):
    """Whether the first levels are above the second ones."""
    check_levels(one)
    check_like_levels(other, len(one))
    if sum(one) != sum(other):
        raise InvalidOperation("levels of another sum")
    return all([sum(one[first:]) >= sum(other[first:]) for first in range(len(one))])


def levels_at(chain, degree, places):
    """The levels, of any length, of what surely is a class of a chain of one order."""
    k = order_of(chain[0])
    return tuple(sorted([value // k for value in map_values(chain, degree, places, 1 - k, 0)]))


def levels_of(chain, deal):
    """The levels of the class of the deal."""
    check_one_order(chain)
    check_deal(chain, deal)
    degree, places = class_at(chain, deal)
    levels = levels_at(chain, degree, places)
    if not are_short(levels):
        raise TooMany(SHORT_DIGITS)
    return levels


def core_with_levels(levels):
    """The core of what surely is levels of a short distance.

    Below the first of these c all boxes have no columns, behind the last one no rows.
    """
    core = ()
    for c in range(-levels[-1], -levels[0] - 1):
        core = union_of(core, box(columns_at(levels, c), rows_at(levels, c)))
    return core


def core_of_levels(levels):
    """The core of the levels."""
    check_levels(levels)
    if distance_in(levels) > MOST_DISTANCE:
        raise TooMany(MOST_DISTANCE)
    return core_with_levels(levels)


def can_be_met(rings, levels):
    """Whether some class of a chain of so many rings of one order has the levels."""
    check_between(rings, 1, MOST_RINGS)
    check_levels(levels)
    return distance_in(levels) <= rings


def check_asked_levels(chain, levels):
    """Refuse what is no chain of one order, or not as many levels as this order."""
    check_one_order(chain)
    check_like_levels(levels, order_of(chain[0]))


def idle_at(k, core):
    """A letter that is idle at what surely is a core."""
    return last_letters(k, core)[0] if core != () else 1


def class_with_levels(chain, levels):
    """Any class with just these levels, None if there is none."""
    check_asked_levels(chain, levels)
    if distance_in(levels) > len(chain):
        return None
    k = len(levels)
    core = core_with_levels(levels)
    letters = list(growing_word(k, core))
    # The rings that the core does not need must not make more of it.
    letters = letters + [idle_at(k, core)] * (len(chain) - len(letters))
    places = [letter * ring[1] % ring[0] for letter, ring in zip(letters, chain)]
    return (sum(levels) + len(chain) + k - 1, tuple(places))


def has_levels(chain, levels, value):
    """Whether the value is a class with just these levels."""
    check_asked_levels(chain, levels)
    return is_class(chain, value) and levels_at(chain, value[0], value[1]) == levels
