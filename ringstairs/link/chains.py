"""Rings, chains, and deals on them."""

from math import gcd

from ringstairs.basics import check_digits, check_integer, is_between, is_integer, is_pair
from ringstairs.errors import InvalidChain, InvalidDeal, InvalidNumber, TooMany

MOST_RINGS = 12
MOST_PLACES = 60
MOST_DIGITS = 60


def is_ring(value):
    """Whether the value is a ring."""
    if not is_pair(value):
        return False
    places, door = value
    return is_between(places, 2, MOST_PLACES) and is_between(door, 1, places - 1)


def is_chain(value):
    """Whether the value is a chain."""
    if not isinstance(value, tuple) or not 1 <= len(value) <= MOST_RINGS:
        return False
    return all([is_ring(ring) for ring in value])


def lies_on(chain, value):
    """Whether the value is a place of what surely is a chain."""
    if not is_pair(value):
        return False
    index, spot = value
    return is_between(index, 0, len(chain) - 1) and is_between(spot, 0, chain[index][0] - 1)


def lies_dealt(chain, value):
    """Whether the value is a deal on what surely is a chain."""
    if not isinstance(value, dict):
        return False
    return all([lies_on(chain, place) and is_integer(value[place]) for place in value])


def check_ring(ring):
    """Refuse what is no ring."""
    if not is_ring(ring):
        raise InvalidChain("no ring")


def check_chain(chain):
    """Refuse what is no chain."""
    if not is_chain(chain):
        raise InvalidChain("no chain")


def check_deal(chain, deal):
    """Refuse what is no deal on what surely is a chain."""
    if not lies_dealt(chain, deal):
        raise InvalidDeal("no deal on this chain")


def is_place(chain, value):
    """Whether the value is a place of the chain."""
    check_chain(chain)
    return lies_on(chain, value)


def is_deal(chain, value):
    """Whether the value is a deal on the chain."""
    check_chain(chain)
    return lies_dealt(chain, value)


def order_of(ring):
    """The order of the ring."""
    check_ring(ring)
    return ring[0] // gcd(ring[0], ring[1])


def lets(ring, place, diagonal):
    """Whether what surely is a ring lets the diagonal with this place."""
    return (diagonal * ring[1] - place) % ring[0] == 0


def does_let(ring, place, diagonal):
    """Whether the ring with this place lets the diagonal."""
    check_ring(ring)
    if not is_between(place, 0, ring[0] - 1):
        raise InvalidNumber(place)
    check_integer(diagonal)
    return lets(ring, place, diagonal)


def left_name(chain):
    """The left end of what surely is a chain."""
    return (0, chain[0][1])


def right_name(chain):
    """The right end of what surely is a chain."""
    return (len(chain) - 1, 0)


def written_name(chain, place):
    """The written name of a place: that of a joint is the one at the ring on its left."""
    index, spot = place
    if index > 0 and spot == chain[index][1]:
        return (index - 1, 0)
    return place


def names_of(chain):
    """The ascending list of the written names of all places."""
    every = [(index, spot) for index, ring in enumerate(chain) for spot in range(ring[0])]
    return [place for place in every if written_name(chain, place) == place]


def places_of(chain):
    """The ascending tuple of the written names of all places."""
    check_chain(chain)
    return tuple(names_of(chain))


def left_end(chain):
    """The left end of the chain as a place."""
    check_chain(chain)
    return left_name(chain)


def right_end(chain):
    """The right end of the chain as a place."""
    check_chain(chain)
    return right_name(chain)


def combined(chain, parts):
    """The written sum of deals, each so many times, with integers of any length.

    The parts are pairs of a count and a deal.
    """
    sums = {}
    for count, deal in parts:
        for place in deal:
            name = written_name(chain, place)
            sums[name] = sums.get(name, 0) + count * deal[place]
    return {name: sums[name] for name in sorted(sums) if sums[name] != 0}


def told_sum(chain, parts):
    """The written sum of deals, each so many times, as it can be returned."""
    deal = combined(chain, parts)
    check_digits(list(deal.values()))
    return deal


def degree_of(chain, deal):
    """The number of all chips of the deal."""
    check_chain(chain)
    check_deal(chain, deal)
    return sum(deal.values())


def written(chain, deal):
    """The deal with written names alone, without numbers 0."""
    check_chain(chain)
    check_deal(chain, deal)
    return told_sum(chain, [(1, deal)])


def has_debt(chain, deal):
    """Whether the number at some place is below 0."""
    check_chain(chain)
    check_deal(chain, deal)
    sums = combined(chain, [(1, deal)])
    return any([number < 0 for number in sums.values()])


def check_deals(chain, one, other):
    """Refuse what is no chain with two deals on it."""
    check_chain(chain)
    check_deal(chain, one)
    check_deal(chain, other)


def added(chain, one, other):
    """The written sum of two deals."""
    check_deals(chain, one, other)
    return told_sum(chain, [(1, one), (1, other)])


def less(chain, one, other):
    """The written difference of two deals."""
    check_deals(chain, one, other)
    return told_sum(chain, [(1, one), (-1, other)])


def multiplied(chain, count, deal):
    """The written deal, so many times."""
    check_chain(chain)
    check_integer(count)
    check_deal(chain, deal)
    return told_sum(chain, [(count, deal)])


def at_ends(chain, a, b):
    """The written deal with a chips at the left end and b chips at the right end."""
    check_chain(chain)
    check_integer(a)
    check_integer(b)
    return told_sum(chain, [(a, {left_name(chain): 1}), (b, {right_name(chain): 1})])


def joined_chains(one, other):
    """The chain of the rings of both, the first one at the left."""
    check_chain(one)
    check_chain(other)
    if len(one) + len(other) > MOST_RINGS:
        raise TooMany(MOST_RINGS)
    return one + other
