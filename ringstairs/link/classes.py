"""Classes of deals, likeness, and the lendings between alike deals."""

from ringstairs.basics import check_digits, check_integer, is_between, is_integer, is_pair
from ringstairs.errors import InvalidOperation, InvalidTuple
from ringstairs.link.chains import (
    check_chain, check_deal, check_deals, combined, lies_on, names_of, right_name, told_sum, written_name,
)


def lies_told(chain, value):
    """Whether the value is a tuple of a place of each ring of what surely is a chain."""
    if not isinstance(value, tuple) or len(value) != len(chain):
        return False
    return all([is_between(place, 0, ring[0] - 1) for place, ring in zip(value, chain)])


def check_places(chain, places):
    """Refuse what is no tuple of a place of each ring of what surely is a chain."""
    if not lies_told(chain, places):
        raise InvalidTuple("no tuple of places of this chain")


def is_class(chain, value):
    """Whether the value is a pair of a degree and a tuple of what surely is a chain."""
    return is_pair(value) and is_integer(value[0]) and lies_told(chain, value[1])


def check_class(chain, value):
    """Refuse what is no pair of a degree and a tuple of what surely is a chain."""
    if not is_class(chain, value):
        raise InvalidTuple("no class of this chain")


def is_tuple(chain, value):
    """Whether the value is a tuple of a place of each ring, in order."""
    check_chain(chain)
    return lies_told(chain, value)


def class_at(chain, deal):
    """The pair of degree and tuple of what surely is a deal, with a degree of any length."""
    chips = [0 for _ in chain]
    sums = [0 for _ in chain]
    for place in deal:
        index, spot = place
        chips[index] += deal[place]
        sums[index] += spot * deal[place]
    places = []
    ahead = 0
    for index, ring in enumerate(chain):
        places.append((sums[index] + ring[1] * (ahead - index)) % ring[0])
        ahead += chips[index]
    return (ahead, tuple(places))


def class_of(chain, deal):
    """The class of the deal: the pair of its degree and its tuple."""
    check_chain(chain)
    check_deal(chain, deal)
    told = class_at(chain, deal)
    check_digits([told[0]])
    return told


def plain_deal(chain, degree, places):
    """The written plain deal of a class."""
    check_chain(chain)
    check_integer(degree)
    check_places(chain, places)
    chips = {(index, place): 1 for index, place in enumerate(places)}
    return told_sum(chain, [(1, chips), (degree - len(chain), {right_name(chain): 1})])


def are_alike(chain, one, other):
    """Whether lendings lead from one deal to the other."""
    check_deals(chain, one, other)
    return class_at(chain, one) == class_at(chain, other)


def ring_moves(chips, at_right):
    """How often the places of a ring lend if this brings each place so many chips.

    The right door lends at_right times. The steps from place to place rise by
    the chips; the first one is told by the round, which comes back to its start.
    """
    many = len(chips)
    step = sum([spot * chips[spot] for spot in range(many)]) // many
    moves = [at_right]
    for spot in range(many - 1):
        step += chips[spot]
        moves.append(moves[spot] + step)
    return moves


def moves_for(chain, change):
    """The lendings that bring what surely is a written deal of a trivial class, of any length."""
    rows = [[change.get((index, spot), 0) for spot in range(ring[0])] for index, ring in enumerate(chain)]
    ahead = 0
    for index, ring in enumerate(chain):
        # What lies on the rings ahead comes through the left door, and goes on through the right one.
        rows[index][ring[1]] += ahead
        ahead = sum(rows[index])
        rows[index][0] -= ahead
    moves = {}
    at_right = 0
    for index in reversed(range(len(chain))):
        row = ring_moves(rows[index], at_right)
        for spot, many in enumerate(row):
            moves[written_name(chain, (index, spot))] = many
        at_right = row[chain[index][1]]
    return {name: moves[name] for name in names_of(chain) if moves[name] != 0}


def lendings(chain, one, other):
    """The lendings from one deal to an alike one, None if they are not alike."""
    check_deals(chain, one, other)
    if class_at(chain, one) != class_at(chain, other):
        return None
    moves = moves_for(chain, combined(chain, [(1, other), (-1, one)]))
    check_digits(list(moves.values()))
    return moves


def lends_well(chain, value):
    """Whether the value has the form of lendings on what surely is a chain."""
    if not isinstance(value, dict):
        return False
    for place in value:
        if not lies_on(chain, place) or written_name(chain, place) != place or place == right_name(chain):
            return False
        if not is_integer(value[place]) or value[place] == 0:
            return False
    return True


def change_by(chain, moves):
    """How many chips more each name has behind lendings."""
    change = {}
    for place in moves:
        names = [place]
        if place[1] == 0 and place[0] + 1 < len(chain):
            names.append((place[0] + 1, chain[place[0] + 1][1]))
        for index, spot in names:
            many = chain[index][0]
            for step, gain in ((0, -2), (1, 1), (many - 1, 1)):
                name = (index, (spot + step) % many)
                change[name] = change.get(name, 0) + gain * moves[place]
    return change


def is_lendings(chain, one, other, value):
    """Whether the value is the lendings from one deal to the other."""
    check_deals(chain, one, other)
    if not lends_well(chain, value):
        return False
    return combined(chain, [(1, one), (1, change_by(chain, value))]) == combined(chain, [(1, other)])


def lent(chain, deal, value):
    """The written deal to which lendings lead."""
    check_chain(chain)
    check_deal(chain, deal)
    if not lends_well(chain, value):
        raise InvalidOperation("no lendings on this chain")
    return told_sum(chain, [(1, deal), (1, change_by(chain, value))])


def check_classes(chain, one, other):
    """Refuse what is no chain with two of its classes."""
    check_chain(chain)
    check_class(chain, one)
    check_class(chain, other)


def told_class(chain, degree, rests):
    """The class with these numbers, taken modulo the numbers of places."""
    check_digits([degree])
    return (degree, tuple([rest % ring[0] for rest, ring in zip(rests, chain)]))


def class_sum(chain, one, other):
    """The class of the sum of deals of two classes."""
    check_classes(chain, one, other)
    rests = [one[1][index] + other[1][index] + index * ring[1] for index, ring in enumerate(chain)]
    return told_class(chain, one[0] + other[0], rests)


def class_less(chain, one, other):
    """The class of the difference of deals of two classes."""
    check_classes(chain, one, other)
    rests = [one[1][index] - other[1][index] - index * ring[1] for index, ring in enumerate(chain)]
    return told_class(chain, one[0] - other[0], rests)


def class_with_ends(chain, one, a, b):
    """The class behind a chips more at the left end and b chips more at the right end."""
    check_chain(chain)
    check_class(chain, one)
    check_integer(a)
    check_integer(b)
    rests = [place + a * ring[1] for place, ring in zip(one[1], chain)]
    return told_class(chain, one[0] + a + b, rests)
