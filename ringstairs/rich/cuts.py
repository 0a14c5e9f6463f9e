"""Least sums over what is joined, and the sums that the rings of a chain have.

A joint is cut by an integer l: the part at its left gets l chips at its right
door, the part at its right -l - 1 chips at its left door.
"""


def least_sum(cost, first, last, choices):
    """The pair (sum, cuts) of a least sum, None if a joint has no choice.

    The function tells the cost of the part with an index, with so many chips
    more at its left and at its right door; first and last are those at both
    ends, and each joint has a list of choices.
    """
    found = [(0, first, ())]
    for index, row in enumerate(choices):
        if not row:
            return None
        found = [best_to(cost, index, found, at) for at in row]
    total, _, cuts = best_to(cost, len(choices), found, last)
    return (total, cuts[:-1])


def best_to(cost, index, found, at):
    """The least way through the part with an index, with `at` chips more at its right door.

    A way is a triple: the sum up to here, the chips at the next left door, the cuts.
    """
    sums = [total + cost(index, left, at) for total, left, _ in found]
    best = min(sums)
    _, _, cuts = found[sums.index(best)]
    return (best, -at - 1, cuts + (at,))


def sum_of_cuts(cost, first, last, cuts):
    """The sum that cuts have."""
    total = 0
    left = first
    for index, at in enumerate(list(cuts) + [last]):
        total += cost(index, left, at)
        left = -at - 1
    return total


def ring_entry(ring, chips, place, a, b):
    """The number h(a, b) of a ring by itself, with so many chips in all and the place of its tuple."""
    total = chips + a + b
    if total == 0 and (place + a * ring[1]) % ring[0] == 0:
        return 1
    return max(0, total)


def ring_chips(chain, degree, index):
    """How many chips of a class of this degree count at a ring."""
    if index + 1 < len(chain):
        return 1
    return 1 + degree - len(chain)


def class_costs(chain, degree, places):
    """The function that tells what the rings of a class cost."""
    return lambda index, a, b: ring_entry(chain[index], ring_chips(chain, degree, index), places[index], a, b)


def class_choices(chain, a):
    """For each joint the cuts among which there are least ones, for all degrees.

    The chips at the left of the joint are then from -1 to 2 g.
    """
    many = len(chain)
    return [[chips - index - 1 - a for chips in range(-1, 2 * many + 1)] for index in range(many - 1)]


def class_cuts(chain, degree, places, a, b):
    """The pair (sum, cuts) of a least sum of a class, with a and b chips more at the ends."""
    return least_sum(class_costs(chain, degree, places), a, b, class_choices(chain, a))
