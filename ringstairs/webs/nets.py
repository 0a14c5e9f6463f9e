"""Chips on nets: lending, reducing, burning, with integers of any length.

A net is a web as it is worked with: a tuple of a row for each place, each a
pair of the number of its ties and the tuple of its neighbours, which are pairs
of a place and the number of ties with it.
"""


def net_of(web):
    """The net of what surely is a web."""
    size, ties = web
    counts = [{} for _ in range(size)]
    for low, high in ties:
        counts[low][high] = counts[low].get(high, 0) + 1
        counts[high][low] = counts[high].get(low, 0) + 1
    return tuple([(sum(row.values()), tuple(row.items())) for row in counts])


def behind_moves(net, chips, moves):
    """The list of the chips behind lendings."""
    left = []
    for place, (many, near) in enumerate(net):
        got = sum([ties * moves[spot] for spot, ties in near])
        left.append(chips[place] - many * moves[place] + got)
    return left


def lend_row(net, place, others):
    """How many chips a lending at each of the other places takes from the place."""
    many, near = net[place]
    row = {place: many}
    for spot, ties in near:
        row[spot] = -ties
    return [row.get(spot, 0) for spot in others]


def scaled_moves(net, place, chips):
    """The pair (scale, moves) that takes all chips from the other places to the place.

    The moves are so many times the lendings as the scale tells. The elimination
    is without fractions: each division by the pivot ahead leaves no rest.
    """
    others = [spot for spot in range(len(net)) if spot != place]
    rows = [lend_row(net, spot, others) + [chips[spot]] for spot in others]
    scale = 1
    for at in range(len(rows)):
        pivot = rows[at][at]
        for low in range(len(rows)):
            if low != at:
                factor = rows[low][at]
                rows[low] = [(pivot * x - factor * y) // scale for x, y in zip(rows[low], rows[at])]
        scale = pivot
    moves = [0 for _ in net]
    for spot, row in zip(others, rows):
        moves[spot] = row[-1]
    return (scale, moves)


def moves_between(net, one, other):
    """The tuple of lendings from one row of chips to another one, None if there are none."""
    change = [x - y for x, y in zip(one, other)]
    if sum(change) != 0:
        return None
    scale, moves = scaled_moves(net, 0, change)
    if any([many % scale != 0 for many in moves]):
        return None
    return tuple([many // scale for many in moves])


def pay_debts(net, place, chips):
    """Let other places with debt borrow, until there are none: changes the list of chips."""
    waiting = [spot for spot, many in enumerate(chips) if many < 0 and spot != place]
    while waiting:
        spot = waiting.pop()
        if chips[spot] < 0:
            many, near = net[spot]
            times = -(chips[spot] // many)
            chips[spot] += times * many
            for beside, ties in near:
                chips[beside] -= times * ties
                if chips[beside] < 0 and beside != place:
                    waiting.append(beside)


def burnt(net, place, chips):
    """The list of the places that burn in a fire that starts at the place, in the order in which they burn."""
    order = [place]
    heat = [0 for _ in net]
    burns = [spot == place for spot in range(len(net))]
    at = 0
    while at < len(order):
        _, near = net[order[at]]
        for spot, ties in near:
            heat[spot] += ties
            if not burns[spot] and heat[spot] > chips[spot]:
                burns[spot] = True
                order.append(spot)
        at += 1
    return order


def reduced_chips(net, place, chips):
    """The tuple that is reduced at the place.

    One great step comes first: the lendings that would take all chips from the
    other places, rounded down. From there borrowing alone leads to each tuple
    whose other places have no debt. The reduced one needs the fewest of these
    borrowings, so to borrow only where there is a debt leads to it.
    """
    scale, moves = scaled_moves(net, place, chips)
    left = behind_moves(net, chips, [many // scale for many in moves])
    pay_debts(net, place, left)
    return tuple(left)


def without_one(net, chips, spot):
    """What is reduced at the place 0, less one chip at the spot, reduced again.

    To pay debts is enough here, too: a set of places that could lend behind it
    without debt could have lent ahead of it.
    """
    left = list(chips)
    left[spot] -= 1
    pay_debts(net, 0, left)
    return tuple(left)


def richness_up_to(net, chips, most, kept):
    """The lesser one of the richness of what is reduced at the place 0 and most.

    The dict keeps answers: most and the number of chips become less together,
    so that one net and one difference of both have one dict.
    """
    if chips[0] < 0:
        return -1
    if most == 0:
        return 0
    if chips not in kept:
        found = most
        for spot in range(len(net)):
            if found > 0:
                found = min(found, richness_up_to(net, without_one(net, chips, spot), most - 1, kept) + 1)
        kept[chips] = found
    return kept[chips]
