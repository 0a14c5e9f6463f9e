import copy
import itertools
import random
import unittest

from ringstairs.heap.heaps import box, heap_of, is_held
from ringstairs.link.chains import added, at_ends, degree_of, joined_chains, less, right_end, written
from ringstairs.link.classes import class_of, lent, plain_deal
from ringstairs.rich.richness import canonical, filling_of, is_filling_of, is_taking, richness, taking
from tests import naive
from tests.common import (
    EVEN, LONG, MOST, PAIR, TRIO, TWELVE, check_judge, check_wrong, raised,
)
from tests.samples import random_chain, random_deal
from tests.test_classes import random_moves

CHAIN = ((4, 1), (4, 2), (3, 1))


def with_degree(rng, chain, degree):
    """A deal of the degree with names of any kind."""
    deal = random_deal(rng, chain, 3)
    index = rng.randrange(len(chain))
    place = (index, rng.randrange(chain[index][0]))
    deal[place] = deal.get(place, 0) + degree - degree_of(chain, deal)
    return deal


def by_heap(chain, degree, places):
    """The richness by the words of [5.2], for degrees of all sizes below 60."""
    rings = len(chain)
    held = [k for k in range(40) if is_held(heap_of(chain, places), box(k + 1, rings - degree + k))]
    return max(held) if held else -1


class TestRichness(unittest.TestCase):
    def test_example(self):
        self.assertEqual(
            [
                richness(CHAIN, {(2, 0): 2}), richness(CHAIN, canonical(CHAIN)), canonical(CHAIN),
                filling_of(CHAIN, {(2, 0): 7}, 4),
            ],
            [0, 2, {(0, 0): 2, (1, 0): 2}, ()],
        )

    def test_against_the_definition(self):
        rng = random.Random(1)
        seen = set()
        for _ in range(60):
            chain = random_chain(rng, 3, 3)
            deal = with_degree(rng, chain, rng.randint(-1, 3))
            size, ties = naive.chain_ties(chain)
            wished = naive.richness(size, ties, naive.chain_chips(chain, deal))
            seen.add(wished)
            self.assertEqual(richness(chain, deal), wished, (chain, deal))
        self.assertTrue(seen >= {-1, 0, 1})

    def test_against_the_heap(self):
        rng = random.Random(2)
        for _ in range(300):
            chain = random_chain(rng, 12, rng.choice((2, 3, 60)))
            rings = len(chain)
            deal = with_degree(rng, chain, rng.randint(-2, 2 * rings + 2))
            degree, places = class_of(chain, deal)
            told = richness(chain, deal)
            if degree <= 2 * rings - 2:
                self.assertEqual(told, max(by_heap(chain, degree, places), degree - rings if degree >= rings else -1))
            self.assertTrue(told >= degree - rings)
            self.assertTrue(told <= max(degree, -1))
            if degree < 0:
                self.assertEqual(told, -1)
            if degree > 2 * rings - 2:
                self.assertEqual(told, degree - rings)

    def test_alike_deals_are_equally_rich(self):
        rng = random.Random(3)
        for _ in range(100):
            chain = random_chain(rng, 8, 5)
            deal = with_degree(rng, chain, rng.randint(0, 2 * len(chain)))
            self.assertEqual(richness(chain, lent(chain, deal, random_moves(rng, chain, 5))), richness(chain, deal))

    def test_long_degrees(self):
        self.assertEqual(richness(PAIR, {(0, 0): MOST}), MOST - 2)
        self.assertEqual(richness(PAIR, {(0, 0): MOST, (1, 1): MOST, (0, 2): 1}), 2 * MOST - 1)
        self.assertEqual(richness(PAIR, {(0, 0): -MOST, (0, 2): 5}), -1)
        self.assertEqual(richness(TWELVE, {(3, 0): 10 ** 49}), 10 ** 49 - 12)
        near = {(3, 0): MOST, (5, 5): 1 - MOST}
        self.assertEqual(richness(TWELVE, near), by_heap(TWELVE, *class_of(TWELVE, near)))

    def test_one_ring(self):
        for degree in range(-2, 5):
            for place in range(5):
                deal = added(((5, 2),), {(0, place): 1}, {(0, 0): degree - 1})
                wished = 0 if degree == 0 and place == 0 else -1 if degree <= 0 else degree - 1
                self.assertEqual(richness(((5, 2),), deal), wished)

    def test_canonical(self):
        self.assertEqual(canonical(((5, 2),)), {})
        self.assertEqual(canonical(EVEN), {(0, 0): 2, (1, 0): 2, (2, 0): 2})
        rng = random.Random(4)
        for _ in range(200):
            chain = random_chain(rng, 12, rng.choice((3, 60)))
            rings = len(chain)
            whole = canonical(chain)
            self.assertEqual(degree_of(chain, whole), 2 * rings - 2)
            self.assertEqual(whole, written(chain, whole))
            self.assertEqual(richness(chain, whole), rings - 1)
            deal = with_degree(rng, chain, rng.randint(-2, 2 * rings))
            rest = less(chain, whole, deal)
            self.assertEqual(richness(chain, deal) - richness(chain, rest), degree_of(chain, deal) + 1 - rings)
            if richness(chain, rest) >= 0 and richness(chain, deal) >= 0:
                self.assertTrue(richness(chain, deal) <= degree_of(chain, deal) // 2)

    def test_sums_are_at_least_so_rich(self):
        rng = random.Random(5)
        more = 0
        for _ in range(200):
            chain = random_chain(rng, 6, 4)
            one, other = (with_degree(rng, chain, rng.randint(0, 8)) for _ in range(2))
            rich = [richness(chain, deal) for deal in (one, other)]
            if min(rich) >= 0:
                self.assertTrue(richness(chain, added(chain, one, other)) >= sum(rich))
                more += richness(chain, added(chain, one, other)) > sum(rich)
        self.assertGreater(more, 5)

    def test_wrong(self):
        check_wrong(self, richness, (PAIR, {}), ("chain", "deal"))
        check_wrong(self, canonical, (PAIR,), ("chain",))
        check_wrong(self, filling_of, (PAIR, {}, 0), ("chain", "deal", "count"))
        check_wrong(self, taking, (PAIR, {}, 0), ("chain", "deal", "count"))
        check_wrong(self, is_filling_of, (PAIR, {}, 0, None), ("chain", "deal", "count", None))
        check_wrong(self, is_taking, (PAIR, {}, 0, None), ("chain", "deal", "count", None))


class TestPapers(unittest.TestCase):
    def test_just_one(self):
        rng = random.Random(6)
        for _ in range(150):
            chain = random_chain(rng, 12, rng.choice((2, 3, 60)))
            rings = len(chain)
            deal = with_degree(rng, chain, rng.randint(-3, 2 * rings + 2))
            rich = richness(chain, deal)
            for k in (0, 1, 2, 5, max(rich, 0), rich + 1, 40, 10 ** 50):
                before = copy.deepcopy(deal)
                filling, taken = filling_of(chain, deal, k), taking(chain, deal, k)
                self.assertEqual(deal, before)
                self.assertEqual(filling is None, rich < k)
                self.assertEqual(taken is None, rich >= k)
                if filling is not None:
                    self.assertIs(is_filling_of(chain, deal, k, filling), True)
                else:
                    self.assertIs(is_taking(chain, deal, k, taken), True)
                    self.assertEqual(sum(taken.values()), k)
                    self.assertEqual(taken, written(chain, taken))
                    self.assertEqual(list(taken), sorted(taken))
                    self.assertEqual(richness(chain, less(chain, deal, taken)), -1)

    def test_long_k(self):
        deal = {(0, 0): MOST}
        self.assertEqual(filling_of(PAIR, deal, MOST - 2), ())
        self.assertIsNone(taking(PAIR, deal, MOST - 2))
        self.assertIsNone(filling_of(PAIR, deal, MOST - 1))
        self.assertIs(is_taking(PAIR, deal, MOST - 1, taking(PAIR, deal, MOST - 1)), True)
        self.assertIs(is_taking(PAIR, deal, MOST, taking(PAIR, deal, MOST)), True)
        long = {(0, 0): MOST, (0, 1): MOST}
        self.assertEqual(filling_of(PAIR, long, MOST), ())
        self.assertIsNone(taking(PAIR, long, MOST))
        self.assertIs(is_filling_of(PAIR, long, MOST, ()), True)
        self.assertIs(is_filling_of(PAIR, long, MOST, ((),)), False)

    def test_every_filling_is_judged(self):
        # A box of one column and two rows: each pair of indices by the words of [5.3].
        for chain, deal in ((EVEN, {(3, 0): 2}), (TRIO, {(0, 0): 1}), (CHAIN, {(2, 0): 1})):
            degree, places = class_of(chain, deal)
            rows = len(chain) - degree
            many = 0
            for column in itertools.product(range(-1, len(chain) + 1), repeat=rows):
                right = all(0 <= j < len(chain) for j in column) and list(column) == sorted(set(column)) and all(
                    ((0 - w) * chain[j][1] - places[j]) % chain[j][0] == 0 for w, j in enumerate(column)
                )
                many += right
                self.assertIs(is_filling_of(chain, deal, 0, (column,)), right)
            self.assertEqual(many > 0, richness(chain, deal) >= 0)

    def test_fillings_of_others(self):
        # The tuple of the rings (0, 1, 0, 1) lets all diagonals in turn: the program tells one filling of several.
        deal = plain_deal(EVEN, 3, (0, 0, 1, 1))
        told = {
            value for value in itertools.product(range(4), repeat=1)
            if is_filling_of(EVEN, deal, 0, (value,))
        }
        self.assertEqual(told, {(0,), (1,)})
        wide = plain_deal(EVEN, 4, (0, 1, 1, 0))
        right = [
            ((a,), (b,)) for a in range(4) for b in range(4) if is_filling_of(EVEN, wide, 1, ((a,), (b,)))
        ]
        self.assertEqual(right, [((0,), (1,)), ((0,), (2,))])

    def test_turned_fillings(self):
        deal = plain_deal(EVEN, 2, (0, 1, 0, 1))
        self.assertEqual(richness(EVEN, deal), 1)
        self.assertEqual(filling_of(EVEN, deal, 1), ((0, 1, 2), (1, 2, 3)))
        check_judge(self, is_filling_of, (EVEN, deal, 1), [((0, 1, 2), (1, 2, 3))])
        for value in (
            ((0, 1, 2), (0, 1, 2)), ((1, 2, 3), (0, 1, 2)), ((0, 2, 1), (1, 2, 3)), ((0, 1, 2), (1, 2, True)),
            ((False, 1, 2), (1, 2, 3)), ([0, 1, 2], (1, 2, 3)), [(0, 1, 2), (1, 2, 3)], ((0, 1, 2),),
            ((0, 1), (1, 2)), ((0, 1, 2), (1, 2, 4)), ((0, 1, 2), (1, 2, 3), ()), (), None, ((0, 1, 2), None),
            ((0, 1, 2), (1, 2, -1)), ((0, 1, 2), (1, 2, LONG)), {0: (0, 1, 2), 1: (1, 2, 3)}, ((0, 1, 2), (1, 2, 3, 4)),
        ):
            self.assertIs(is_filling_of(EVEN, deal, 1, value), False, value)
        # Indices of rings that let the diagonals, but do not rise from column to column.
        self.assertIs(is_filling_of(EVEN, plain_deal(EVEN, 2, (0, 1, 0, 1)), 0, ((0, 1),)), True)
        self.assertIs(is_filling_of(EVEN, plain_deal(EVEN, 2, (0, 1, 0, 1)), 0, ((2, 3),)), True)
        self.assertIs(is_filling_of(EVEN, plain_deal(EVEN, 2, (0, 1, 0, 1)), 0, ((2, 1),)), False)

    def test_empty_boxes(self):
        self.assertEqual(filling_of(TRIO, {(1, 0): 3}, 0), ())
        check_judge(self, is_filling_of, (TRIO, {(1, 0): 3}, 0), [()])
        for value in (((),), [], None, {}, "", ((0,),)):
            self.assertIs(is_filling_of(TRIO, {(1, 0): 3}, 0, value), False)
        self.assertIs(is_filling_of(TRIO, {(1, 0): 3}, 1, ()), False)

    def test_every_taking_is_judged(self):
        rng = random.Random(7)
        for _ in range(20):
            chain = random_chain(rng, 3, 3)
            deal = with_degree(rng, chain, rng.randint(0, 4))
            names = sorted({place for place in naive.chain_places(chain)[0]})
            written_names = [place for place in names if written(chain, {place: 1}) == {place: 1}]
            for k in range(4):
                for spots in itertools.combinations_with_replacement(written_names, k):
                    value = {spot: spots.count(spot) for spot in spots}
                    wished = richness(chain, less(chain, deal, value)) == -1
                    self.assertIs(is_taking(chain, deal, k, value), wished)

    def test_turned_takings(self):
        deal = {(0, 0): 2}
        self.assertEqual(richness(PAIR, deal), 1)
        right = [
            {(a, b): 2} for a, b in ((0, 1), (0, 2), (1, 0), (1, 2), (1, 3))
            if richness(PAIR, less(PAIR, deal, {(a, b): 2})) == -1
        ]
        self.assertTrue(right)
        check_judge(self, is_taking, (PAIR, deal, 2), right)
        for value in (
            {(0, 0): 2}, {(1, 1): 2}, {(0, 1): 3, (0, 0): -1}, {(0, 1): 2, (0, 2): 0}, {(0, 1): 3}, {(0, 1): 1},
            {(0, 1): True, (0, 2): 1}, [((0, 1), 2)], (((0, 1), 2),), None, {}, {(0, 3): 2}, {(0, 1): 2, (1, 1): 0},
        ):
            self.assertIs(is_taking(PAIR, deal, 2, value), False, value)
        # Nothing need be taken of what cannot pay, and nothing else is then right.
        debt = {(0, 1): 1, (0, 0): -1}
        self.assertEqual(taking(PAIR, debt, 0), {})
        check_judge(self, is_taking, (PAIR, debt, 0), [{}])
        self.assertIs(is_taking(PAIR, {(0, 0): -LONG + 1}, 3, {(1, 3): 3}), True)
        # Both names of a joint are one place: the other name is not written.
        self.assertIs(is_taking(PAIR, {(1, 1): -1}, 1, {(0, 0): 1}), True)
        self.assertIs(is_taking(PAIR, {(1, 1): -1}, 1, {(1, 1): 1}), False)

    def test_least_takings_are_cut_at_joints(self):
        # Takings by the program leave rings that cannot pay alone, for some cuts [5.5].
        rng = random.Random(8)
        for _ in range(40):
            chain = random_chain(rng, 3, 4)
            deal = with_degree(rng, chain, rng.randint(0, 4))
            rich = richness(chain, deal)
            least = min(
                self.cost(chain, deal, cuts) for cuts in itertools.product(range(-9, 10), repeat=len(chain) - 1)
            )
            self.assertEqual(least, rich + 1)
            taken = taking(chain, deal, rich + 1)
            self.assertEqual(sum(taken.values()), rich + 1)

    def cost(self, chain, deal, cuts):
        total = 0
        for index, (places, door) in enumerate(chain):
            chips = [deal.get((index, spot), 0) for spot in range(places)]
            chips[door] += -cuts[index - 1] - 1 if index > 0 else 0
            chips[0] += cuts[index] if index + 1 < len(chain) else 0
            many, rest = sum(chips), sum(p * x for p, x in enumerate(chips)) % places
            total += many if many > 0 else 1 if many == 0 and rest == 0 else 0
        return total

    def test_richness_at_the_right_end(self):
        rng = random.Random(9)
        for _ in range(60):
            chain = random_chain(rng, 3, 3)
            deal = with_degree(rng, chain, rng.randint(0, 4))
            k = richness(chain, deal)
            if k >= 0:
                self.assertTrue(richness(chain, less(chain, deal, {right_end(chain): k})) >= 0)

    def test_joined(self):
        joined = joined_chains(PAIR, TRIO)
        deal = added(joined, at_ends(joined, 2, 1), {(1, 0): 1})
        self.assertEqual(richness(joined, deal), by_heap(joined, *class_of(joined, deal)))

    def test_unlike_riches_of_equal_degree_and_size(self):
        chain = ((5, 1),) * 4
        found = {}
        for places in itertools.product(range(5), repeat=4):
            told = richness(chain, plain_deal(chain, 3, places))
            found.setdefault(sum(heap_of(chain, places)), set()).add(told)
        self.assertEqual(found[4], {0, 1})


if __name__ == "__main__":
    unittest.main()
