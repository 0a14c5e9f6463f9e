"""Slow ways to the same answers, straight from the definitions."""

from fractions import Fraction
from itertools import combinations_with_replacement


def chain_places(chain):
    """A dict from each name of a place to a number of its own for each place, by the text of joints."""
    numbers = {}
    many = 0
    for index, (places, door) in enumerate(chain):
        for spot in range(places):
            if index > 0 and spot == door:
                numbers[(index, spot)] = numbers[(index - 1, 0)]
            else:
                numbers[(index, spot)] = many
                many += 1
    return numbers, many


def chain_ties(chain):
    numbers, many = chain_places(chain)
    ties = []
    for index, (places, _) in enumerate(chain):
        for spot in range(places):
            ties.append((numbers[(index, spot)], numbers[(index, (spot + 1) % places)]))
    return many, ties


def chain_chips(chain, deal):
    numbers, many = chain_places(chain)
    chips = [0] * many
    for place, number in deal.items():
        chips[numbers[place]] += number
    return chips


def lend(ties, chips, moves):
    """The chips behind lendings, tie by tie."""
    chips = list(chips)
    for one, other in ties:
        chips[one] += moves[other] - moves[one]
        chips[other] += moves[one] - moves[other]
    return chips


def solve(rows, right):
    """The solution of a square system with fractions."""
    rows = [[Fraction(x) for x in row] + [Fraction(b)] for row, b in zip(rows, right)]
    size = len(rows)
    for at in range(size):
        pivot = next(row for row in range(at, size) if rows[row][at])
        rows[at], rows[pivot] = rows[pivot], rows[at]
        rows[at] = [x / rows[at][at] for x in rows[at]]
        for row in range(size):
            if row != at:
                factor = rows[row][at]
                rows[row] = [x - factor * y for x, y in zip(rows[row], rows[at])]
    return [row[-1] for row in rows]


def find_moves(size, ties, one, other):
    """Lendings from one to other with 0 at the last place, None if there are none."""
    if sum(one) != sum(other):
        return None
    laplace = [[0] * size for _ in range(size)]
    for p, q in ties:
        laplace[p][p] += 1
        laplace[q][q] += 1
        laplace[p][q] -= 1
        laplace[q][p] -= 1
    small = [row[:-1] for row in laplace[:-1]]
    found = solve(small, [x - y for x, y in zip(one, other)][:-1]) + [Fraction(0)]
    if any(x.denominator != 1 for x in found):
        return None
    return [int(x) for x in found]


def all_takings(size, k):
    for spots in combinations_with_replacement(range(size), k):
        chips = [0] * size
        for spot in spots:
            chips[spot] += 1
        yield tuple(chips)


def can_pay(size, ties, chips):
    """Whether some deal without debt is alike, tried out."""
    if sum(chips) < 0:
        return False
    return any(find_moves(size, ties, chips, free) is not None for free in all_takings(size, sum(chips)))


def richness(size, ties, chips):
    """The richness by its definition; small webs alone."""
    k = 0
    while sum(chips) >= k and all(
        can_pay(size, ties, [x - y for x, y in zip(chips, taken)]) for taken in all_takings(size, k)
    ):
        k += 1
    return k - 1
