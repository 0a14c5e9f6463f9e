"""What edits do to a chain and to the written named deals on it."""

from ringstairs.basics import are_short
from ringstairs.ends.turned import flipped_chain, flipped_deal
from ringstairs.house.named import ordered, written_deal


def with_deal(chain, deals, name, deal):
    """The chain and the deals with one deal more, or another one."""
    more = {one: deals[one] for one in deals}
    more[name] = written_deal(chain, deal)
    return (chain, ordered(more))


def without_deal(chain, deals, name):
    """The chain and the deals without one of these."""
    return (chain, {one: deals[one] for one in deals if one != name})


def with_ring(chain, deals, index, ring):
    """The chain with a ring more, and the deals on it."""
    more = chain[:index] + (ring,) + chain[index:]
    moved = {}
    for name in deals:
        # The written name of a joint is at the ring on its left: so its chips stay there.
        deal = {(j if j < index else j + 1, p): deals[name][(j, p)] for j, p in deals[name]}
        moved[name] = written_deal(more, deal)
    return (more, moved)


def place_without(chain, index, place):
    """The place to which the chips of a written place come if a ring is left out, None if they go with it."""
    j, p = place
    if j != index:
        return (j if j < index else j - 1, p)
    if p != 0 and p != chain[index][1]:
        return None
    # Both doors become what the right door ahead is, or, of the first ring, the left end of what is left.
    return (index - 1, 0) if index > 0 else (0, chain[1][1])


def without_ring(chain, deals, index):
    """The chain without a ring, and the deals on it, with integers of any length."""
    less = chain[:index] + chain[index + 1:]
    moved = {}
    for name in deals:
        deal = {}
        for place in deals[name]:
            to = place_without(chain, index, place)
            if to is not None:
                deal[to] = deal.get(to, 0) + deals[name][place]
        moved[name] = written_deal(less, deal)
    return (less, moved)


def with_turned(chain, deals, index):
    """The chain with a ring turned over, and the deals on it."""
    return (flipped_chain(chain, index), {name: flipped_deal(chain, deals[name], index) for name in deals})


def behind_edit(chain, deals, edit):
    """The pair of the chain and the deals behind an edit against which no word stands, but perhaps the last one."""
    word = edit[0]
    if word == "put":
        return with_deal(chain, deals, edit[1], edit[2])
    if word == "drop":
        return without_deal(chain, deals, edit[1])
    if word == "ring":
        return with_ring(chain, deals, edit[1], edit[2])
    if word == "out":
        return without_ring(chain, deals, edit[1])
    return with_turned(chain, deals, edit[1])


def are_short_deals(deals):
    """Whether all numbers of what surely are written deals are short."""
    return all([are_short(list(deal.values())) for deal in deals.values()])
