"""Webs, lending on them, fire, and what can pay."""

from ringstairs.basics import check_between, check_digits, is_between, is_long_row, is_pair, is_row
from ringstairs.errors import InvalidDeal, InvalidOperation, InvalidWeb, TooMany
from ringstairs.link.chains import check_chain, check_deal, combined, names_of, written_name
from ringstairs.webs.nets import (
    behind_moves, burnt, moves_between, net_of, reduced_chips, richness_up_to, without_one,
)

MOST_PLACES = 12
MOST_TIES = 40
MOST_CHIPS = 100
MOST_TAKEN = 4


def are_tied(size, ties):
    """Whether the value is ties between places below size, in order."""
    if not isinstance(ties, tuple) or len(ties) > MOST_TIES:
        return False
    for tie in ties:
        if not is_pair(tie) or not is_between(tie[1], 1, size - 1) or not is_between(tie[0], 0, tie[1] - 1):
            return False
    return list(ties) == sorted(ties)


def are_in_one(size, ties):
    """Whether each place can be reached along ties from the first one."""
    reached = [place == 0 for place in range(size)]
    for _ in range(size):
        for low, high in ties:
            reached[low] = reached[low] or reached[high]
            reached[high] = reached[low]
    return all(reached)


def is_web(value):
    """Whether the value is a web."""
    if not is_pair(value):
        return False
    size, ties = value
    return is_between(size, 1, MOST_PLACES) and are_tied(size, ties) and are_in_one(size, ties)


def check_web(web):
    """Refuse what is no web."""
    if not is_web(web):
        raise InvalidWeb("no web")


def is_dealt(web, value):
    """Whether the value is a web deal on what surely is a web."""
    return is_row(value, web[0], -MOST_CHIPS, MOST_CHIPS)


def check_web_deal(web, deal):
    """Refuse what is no web deal on what surely is a web."""
    if not is_dealt(web, deal):
        raise InvalidDeal("no web deal on this web")


def check_spot(web, place):
    """Refuse what is no place of what surely is a web."""
    check_between(place, 0, web[0] - 1)


def is_web_deal(web, value):
    """Whether the value is a web deal."""
    check_web(web)
    return is_dealt(web, value)


def lent_web(web, deal, moves):
    """The tuple of the chips behind web lendings."""
    check_web(web)
    check_web_deal(web, deal)
    if not is_long_row(moves, web[0]):
        raise InvalidOperation("no web lendings on this web")
    left = behind_moves(net_of(web), deal, moves)
    check_digits(left)
    return tuple(left)


def web_lendings(web, one, other):
    """Any web lendings from one web deal to another one, None if they are not alike."""
    check_web(web)
    check_web_deal(web, one)
    check_web_deal(web, other)
    return moves_between(net_of(web), one, other)


def reduced(web, place, deal):
    """The tuple to which the deal is alike and that is reduced at the place."""
    check_web(web)
    check_spot(web, place)
    check_web_deal(web, deal)
    return reduced_chips(net_of(web), place, deal)


def is_reduced(web, place, deal):
    """Whether the web deal is reduced at the place."""
    check_web(web)
    check_spot(web, place)
    check_web_deal(web, deal)
    if any([many < 0 for spot, many in enumerate(deal) if spot != place]):
        return False
    return len(burnt(net_of(web), place, deal)) == web[0]


def without_debt(web, deal):
    """Any web lendings behind which no place has a debt, None if the deal cannot pay."""
    check_web(web)
    check_web_deal(web, deal)
    net = net_of(web)
    left = reduced_chips(net, 0, deal)
    if left[0] < 0:
        return None
    return moves_between(net, deal, left)


def is_without_debt(web, deal, value):
    """Whether the value is web lendings behind which no place has a debt."""
    check_web(web)
    check_web_deal(web, deal)
    if not is_long_row(value, web[0]):
        return False
    return all([many >= 0 for many in behind_moves(net_of(web), deal, value)])


def debt_order(web, deal):
    """Any paper of never, None if the deal can pay."""
    check_web(web)
    check_web_deal(web, deal)
    net = net_of(web)
    left = reduced_chips(net, 0, deal)
    if left[0] >= 0:
        return None
    # A place burns when it has fewer chips than ties to places that burn ahead of it.
    return (tuple(burnt(net, 0, left)), moves_between(net, deal, left))


def deal_of_order(net, order):
    """The list of the chips of the deal of an order."""
    ranks = {place: rank for rank, place in enumerate(order)}
    chips = []
    for place, (_, near) in enumerate(net):
        chips.append(sum([ties for spot, ties in near if ranks[spot] < ranks[place]]) - 1)
    return chips


def is_debt_order(web, deal, value):
    """Whether the value is a paper of never."""
    check_web(web)
    check_web_deal(web, deal)
    size = web[0]
    if not is_pair(value) or not is_row(value[0], size, 0, size - 1) or not is_long_row(value[1], size):
        return False
    if sorted(value[0]) != list(range(size)):
        return False
    net = net_of(web)
    left = behind_moves(net, deal, value[1])
    return all([many <= bound for many, bound in zip(left, deal_of_order(net, value[0]))])


def is_surely_rich(web, deal, k):
    """Whether the number of chips alone tells that the deal is at least so rich."""
    return sum(deal) - rings_of(web) >= k


def web_richness(web, deal, most):
    """The lesser one of the richness of the deal and most."""
    check_web(web)
    check_web_deal(web, deal)
    check_between(most, 0, MOST_TAKEN)
    if is_surely_rich(web, deal, most):
        return most
    net = net_of(web)
    return richness_up_to(net, reduced_chips(net, 0, deal), most, {})


def web_taking(web, deal, k):
    """Any taking of k chips behind which the deal cannot pay, None if it is at least so rich."""
    check_web(web)
    check_web_deal(web, deal)
    check_between(k, 0, MOST_TAKEN)
    if is_surely_rich(web, deal, k):
        return None
    net = net_of(web)
    left = reduced_chips(net, 0, deal)
    kept = {}
    if richness_up_to(net, left, k, kept) >= k:
        return None
    taken = [0 for _ in net]
    while left[0] >= 0:
        spot = poorest(net, left, k - sum(taken), kept)
        taken[spot] += 1
        left = without_one(net, left, spot)
    # What cannot pay cannot do so with fewer chips either.
    taken[0] += k - sum(taken)
    return tuple(taken)


def poorest(net, chips, k, kept):
    """A place such that what is left without a chip there is not as rich as k - 1."""
    for spot in range(len(net)):
        if richness_up_to(net, without_one(net, chips, spot), k - 1, kept) < k - 1:
            return spot
    return None


def is_web_taking(web, deal, k, value):
    """Whether the value is a taking of k chips behind which the deal cannot pay."""
    check_web(web)
    check_web_deal(web, deal)
    check_between(k, 0, MOST_TAKEN)
    if not is_row(value, web[0], 0, k) or sum(value) != k:
        return False
    left = [many - less for many, less in zip(deal, value)]
    return reduced_chips(net_of(web), 0, left)[0] < 0


def rings_of(web):
    """The number of ties less the number of places, and 1, of what surely is a web."""
    return len(web[1]) - web[0] + 1


def ring_number(web):
    """The number of ties less the number of places, and 1."""
    check_web(web)
    return rings_of(web)


def web_canonical(web):
    """The web deal that has at each place its number of ties less 2."""
    check_web(web)
    return tuple([many - 2 for many, _ in net_of(web)])


def web_of(chain):
    """The web of a chain with at most twelve places."""
    check_chain(chain)
    names = names_of(chain)
    if len(names) > MOST_PLACES:
        raise TooMany(MOST_PLACES)
    numbers = {name: number for number, name in enumerate(names)}
    ties = []
    for index, ring in enumerate(chain):
        for spot in range(ring[0]):
            one = numbers[written_name(chain, (index, spot))]
            other = numbers[written_name(chain, (index, (spot + 1) % ring[0]))]
            ties.append((min(one, other), max(one, other)))
    return (len(names), tuple(sorted(ties)))


def web_deal(chain, deal):
    """The web deal of a deal of the chain."""
    check_chain(chain)
    check_deal(chain, deal)
    sums = combined(chain, [(1, deal)])
    if not all([is_between(many, -MOST_CHIPS, MOST_CHIPS) for many in sums.values()]):
        raise InvalidDeal("more chips at a place than a web deal has")
    names = names_of(chain)
    if len(names) > MOST_PLACES:
        raise TooMany(MOST_PLACES)
    return tuple([sums.get(name, 0) for name in names])
