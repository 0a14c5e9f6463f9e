"""Chosen by a told seed: chains, deals, webs, pieces and heaps to try."""

from itertools import product

from ringstairs.join.pieces import Piece
from ringstairs.turns.greedy import made_of
from ringstairs.turns.rounds import Round


def random_chain(rng, rings, places):
    chain = []
    for _ in range(rng.randint(1, rings)):
        many = rng.randint(2, places)
        chain.append((many, rng.randint(1, many - 1)))
    return tuple(chain)


def random_deal(rng, chain, most):
    deal = {}
    for _ in range(rng.randint(0, 2 * len(chain) + 2)):
        index = rng.randrange(len(chain))
        deal[(index, rng.randrange(chain[index][0]))] = rng.randint(-most, most)
    return deal


def random_places(rng, chain):
    return tuple(rng.randrange(places) for places, _ in chain)


def random_web(rng, places, ties):
    size = rng.randint(1, places)
    rows = [(rng.randrange(spot), spot) for spot in range(1, size)]
    many = rng.randint(0, max(0, ties - len(rows))) if size > 1 else 0
    for _ in range(many):
        low, high = sorted(rng.sample(range(size), 2))
        rows.append((low, high))
    names = rng.sample(range(size), size)
    return size, tuple(sorted(tuple(sorted((names[p], names[q]))) for p, q in rows))


def random_piece(rng, places, ties, most):
    web = random_web(rng, places, ties)
    deal = tuple(rng.randint(-most, most) for _ in range(web[0]))
    return Piece(web, rng.randrange(web[0]), rng.randrange(web[0]), deal)


def random_heap(rng, columns, rows):
    return tuple(sorted((rng.randint(1, rows) for _ in range(rng.randint(0, columns))), reverse=True))


def random_letters(rng, m, many):
    return tuple(rng.randrange(m) for _ in range(many)) if m > 1 else ()


def random_map(rng, m, many, most):
    """A map with at most so many falls and a shift of at most this size."""
    return made_of(m, (rng.randint(-most, most), random_letters(rng, m, rng.randint(0, many))))


def wild_map(rng, m, most):
    """A map with values of this size, and any number of falls."""
    rests = rng.sample(range(m), m)
    return Round(tuple(rest + m * rng.randint(-most, most) for rest in rests))


def heap_within(rng, columns, rows, squares):
    """A heap of so many columns, rows and squares at most."""
    while True:
        heap = random_heap(rng, columns, rows)
        if sum(heap) <= squares:
            return heap


def all_places(chain):
    return list(product(*[range(places) for places, _ in chain]))
