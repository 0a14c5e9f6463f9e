import random
import unittest
from itertools import product
from math import lcm

from ringstairs.errors import InvalidChain, InvalidNumber, InvalidTuple, TooMany
from ringstairs.heap.heaps import heap_of
from ringstairs.join.pieces import chain_table
from ringstairs.link.chains import added, at_ends, does_let, joined_chains, left_end, less, order_of, right_end
from ringstairs.link.classes import class_of, plain_deal
from ringstairs.rich.richness import richness
from ringstairs.turns import ends
from ringstairs.turns.ends import (
    are_one_map, end_table, gaps_at_left, gaps_at_right, index_of, parting, ring_letters, value_at, window,
)
from ringstairs.turns.greedy import greedy
from ringstairs.turns.rounds import Round, letter, plain_shift, widened
from tests.common import EVEN, LONG, MOST, NO_CHAINS, NO_CLASSES, NO_INTEGERS, PAIR, TRIO, TWELVE, check_wrong, raised
from tests.samples import all_places, random_chain, random_places

# The greatest common multiple of orders up to 10,000, which itself is none, and the least one beyond it.
NEAR = ((49, 1), (51, 1), (4, 1))
OVER = ((15, 1), (23, 1), (29, 1))


def slow_map(chain, degree, places, low, high):
    """The map by [9.1] on a stretch of the integers that is wide enough, as a dict."""
    rings = len(chain)
    p = {i: i + degree - rings for i in range(low - 2 * rings, high + 2 * rings + 1)}
    for (n, s), x in reversed(list(zip(chain, places))):
        for i in range(low - 2 * rings, high + 2 * rings):
            if (i * s + x) % n == 0 and p[i] < p[i + 1]:
                p[i], p[i + 1] = p[i + 1], p[i]
    return {i: p[i] for i in range(low, high + 1)}


def round_of(chain, degree, places, m):
    return Round(tuple(value_at(chain, degree, places, i) for i in range(m)))


def some_class(rng, rings, places, spread=3):
    chain = random_chain(rng, rings, places)
    return chain, rng.randint(-spread, 2 * len(chain) + spread), random_places(rng, chain)


class TestMap(unittest.TestCase):
    def test_example(self):
        self.assertEqual((ends.MOST_WINDOW, ends.MOST_PERIOD), (200, 10000))
        self.assertEqual(
            [
                ring_letters(TRIO, (0, 2, 4)), window(PAIR, 2, (2, 3), -3, 3), value_at(PAIR, 2, (2, 3), 12),
                index_of(PAIR, 2, (2, 3), 0),
            ],
            [((5, 0), (2, 1), (7, 1)), (-2, -1, -3, 0, 2, 1, 3), 12, 0],
        )

    def test_letters(self):
        rng = random.Random(1)
        for _ in range(150):
            chain, _, places = some_class(rng, 12, rng.choice((2, 6, 60)))
            told = ring_letters(chain, places)
            self.assertEqual(len(told), len(chain))
            for ring, place, one in zip(chain, places, told):
                m = order_of(ring)
                spots = [c for c in range(m) if (c * ring[1] + place) % ring[0] == 0]
                self.assertEqual(one, (m, spots[0]) if spots else None)
                lets = any(does_let(ring, place, c) for c in range(m))
                self.assertIs(one is None, not lets)
        self.assertEqual(ring_letters(((4, 2), (4, 2)), (1, 2)), (None, (2, 1)))

    def test_against_the_definition(self):
        rng = random.Random(2)
        for _ in range(120):
            chain, degree, places = some_class(rng, 12, rng.choice((2, 3, 5, 60)))
            low = rng.randint(-80, 80)
            wished = slow_map(chain, degree, places, low, low + 60)
            self.assertEqual(window(chain, degree, places, low, low + 60), tuple(wished[low + i] for i in range(61)))
            for i in (low, low + 31, low + 60):
                told = value_at(chain, degree, places, i)
                self.assertEqual(told, wished[i])
                self.assertEqual(index_of(chain, degree, places, told), i)
                self.assertTrue(i + degree - 2 * len(chain) <= told <= i + degree)

    def test_one_to_one_and_periodic(self):
        rng = random.Random(3)
        for _ in range(60):
            chain, degree, places = some_class(rng, 12, rng.choice((3, 6, 60)))
            m = 1
            for ring in chain:
                m = m * order_of(ring)
            for target in (-1000, -7, 0, 5, 10 ** 40):
                i = index_of(chain, degree, places, target)
                self.assertEqual(value_at(chain, degree, places, i), target)
                self.assertEqual(value_at(chain, degree, places, i + m), target + m)
                self.assertEqual(index_of(chain, degree, places, target - m), i - m)

    def test_mute_places_change_nothing(self):
        chain = ((3, 1), (6, 4), (4, 1))
        self.assertEqual(ring_letters(chain, (1, 3, 2))[1], None)
        told = window(chain, 3, (1, 3, 2), -50, 50)
        self.assertEqual(told, window(((3, 1), (4, 1)), 2, (1, 2), -50, 50))
        self.assertEqual(window(((4, 2),), -5, (1,), 0, 3), (-6, -5, -4, -3))

    def test_edges_of_windows(self):
        self.assertEqual(len(window(TWELVE, 9, (0,) * 12, -100, 99)), 200)
        self.assertEqual(len(window(TWELVE, 9, (0,) * 12, 7, 7)), 1)
        for last in (100, 101, -101, 10 ** 30):
            self.assertEqual(raised(self, InvalidNumber, window, TWELVE, 9, (0,) * 12, -100, last).given, last)
        for first in (10 ** 50, -10 ** 50, 1 - LONG):
            told = window(PAIR, 2, (2, 3), first, first + 199)
            near = window(PAIR, 2, (2, 3), first % 12, first % 12 + 199)
            self.assertEqual(told, tuple(first - first % 12 + value for value in near))
        self.assertEqual(raised(self, TooMany, window, PAIR, 12, (0, 0), MOST - 3, MOST).limit, 60)
        self.assertEqual(raised(self, TooMany, window, PAIR, MOST, (0, 0), 50, 60).limit, 60)
        self.assertEqual(raised(self, TooMany, window, PAIR, -MOST, (0, 0), -60, -60).limit, 60)
        self.assertEqual(value_at(PAIR, MOST, (0, 0), MOST), 2 * MOST - 2 + self.bump(MOST))
        self.assertEqual(index_of(PAIR, -MOST, (0, 0), value_at(PAIR, -MOST, (0, 0), 3)), 3)
        self.assertEqual(raised(self, InvalidNumber, window, PAIR, MOST, (0, 0), 50, 40).given, 40)

    def bump(self, i):
        # The map of PAIR is periodic with 12.
        return value_at(PAIR, 0, (0, 0), i % 12) - (i % 12) + 2

    def test_wrong(self):
        check_wrong(self, ring_letters, (PAIR, (0, 0)), ("chain", "places"))
        for call in (value_at, index_of):
            check_wrong(self, call, (PAIR, 2, (0, 0), 5), ("chain", "integer", "places", "integer"))
        check_wrong(
            self, window, (PAIR, 2, (0, 0), 0, 5), ("chain", "integer", "places", "integer", "integer")
        )
        check_wrong(self, end_table, (PAIR, 2, (0, 0), 0, 5), ("chain", "integer", "places", "integer", "integer"))
        for call in (gaps_at_left, gaps_at_right):
            check_wrong(self, call, (PAIR, 2, (0, 0)), ("chain", "integer", "places"))


class TestTable(unittest.TestCase):
    def test_against_other_stages(self):
        rng = random.Random(4)
        for _ in range(120):
            chain, degree, places = some_class(rng, 12, rng.choice((2, 3, 5, 60)))
            deal = plain_deal(chain, degree, places)
            for _ in range(8):
                a = rng.randint(-20, 20)
                b = rng.randint(-8, 8) - a
                told = end_table(chain, degree, places, a, b)
                self.assertEqual(told, richness(chain, added(chain, deal, at_ends(chain, a, b))) + 1)
                self.assertEqual(told, chain_table(chain, degree, places, a, b))
                step = told - end_table(chain, degree, places, a - 1, b)
                self.assertEqual(step, 1 if value_at(chain, degree, places, a) >= -b else 0)
                step = told - end_table(chain, degree, places, a, b - 1)
                self.assertEqual(step, 1 if index_of(chain, degree, places, -b) <= a else 0)

    def test_by_counting(self):
        rng = random.Random(5)
        for _ in range(80):
            chain, degree, places = some_class(rng, 6, 6)
            p = slow_map(chain, degree, places, -80, 20)
            for a, b in product(range(-6, 7), repeat=2):
                wished = sum(p[i] >= -b for i in p if i <= a)
                self.assertEqual(end_table(chain, degree, places, a, b), wished)

    def test_far_away(self):
        self.assertEqual(end_table(PAIR, 2, (0, 0), MOST, MOST), 2 * MOST + 1)
        self.assertEqual(end_table(PAIR, MOST, (0, 0), MOST, MOST), 3 * MOST - 1)
        self.assertEqual(end_table(PAIR, 2, (0, 0), -MOST, -MOST), 0)
        for a in (MOST, -MOST, 10 ** 50):
            self.assertEqual(end_table(PAIR, 2, (2, 3), a, -a), chain_table(PAIR, 2, (2, 3), a, -a))
        degree = 10 ** 49 + 7
        self.assertEqual(end_table(TWELVE, degree, (1,) * 12, 0, 0), degree - 11)
        self.assertEqual(
            end_table(TWELVE, degree, (1,) * 12, 5, 6 - degree), chain_table(TWELVE, degree, (1,) * 12, 5, 6 - degree)
        )

    def test_gaps(self):
        rng = random.Random(6)
        for _ in range(120):
            chain, degree, places = some_class(rng, 8, rng.choice((2, 3, 5)))
            deal = plain_deal(chain, degree, places)
            rich = richness(chain, deal)
            for call, end in ((gaps_at_left, left_end(chain)), (gaps_at_right, right_end(chain))):
                told = call(chain, degree, places)
                self.assertEqual(told, tuple(sorted(set(told))))
                self.assertEqual(len(told), rich + 1)
                left = [richness(chain, less(chain, deal, {end: a})) for a in range(degree + 3)]
                self.assertEqual(told, tuple(a for a in range(degree + 2) if left[a + 1] < left[a]))
                self.assertTrue(all(a < degree + 1 for a in told))

    def test_edges_of_gaps(self):
        for call in (gaps_at_left, gaps_at_right):
            self.assertEqual(call(PAIR, -1, (0, 0)), ())
            self.assertEqual(call(PAIR, -MOST, (0, 0)), ())
            self.assertEqual(len(call(PAIR, 2001, (0, 0))), 2000)
            self.assertEqual(raised(self, TooMany, call, PAIR, 2002, (0, 0)).limit, 2000)
            self.assertEqual(raised(self, TooMany, call, PAIR, MOST, (0, 0)).limit, 2000)
            self.assertEqual(len(call(TWELVE, 2011, (0,) * 12)), 2000)
            self.assertEqual(raised(self, TooMany, call, TWELVE, 2012, (0,) * 12).limit, 2000)


class TestTwoMaps(unittest.TestCase):
    def test_against_the_definition(self):
        rng = random.Random(7)
        seen = {True: 0, False: 0}
        for _ in range(300):
            chain, degree, places = some_class(rng, 4, 3, 0)
            other, _, spots = some_class(rng, 4, 3, 0)
            if rng.random() < 0.3:
                # A ring with a mute place makes no difference.
                other, spots = ((4, 2),) + chain, (rng.randint(0, 1),) + places
            most = degree - len(chain) + len(other) + rng.randint(0, 5) // 5
            p = slow_map(chain, degree, places, 0, 36)
            q = slow_map(other, most, spots, 0, 36)
            unlike = [i for i in range(37) if p[i] != q[i]]
            wished = unlike[0] if unlike else None
            arguments = (chain, (degree, places), other, (most, spots))
            self.assertEqual(parting(*arguments), wished)
            self.assertIs(are_one_map(*arguments), wished is None)
            seen[wished is None] += 1
            if wished is None:
                self.assertEqual(heap_of(chain, places), heap_of(other, spots))
        self.assertTrue(min(seen.values()) > 20)

    def test_late_parting(self):
        chain = ((2, 1), (3, 1), (5, 1), (7, 1), (11, 1))
        found = []
        for places in product((0,), (0, 1, 2), (0, 3), (0, 6), range(11)):
            for other in ((0, 1, 0, 0, 0), (0, 0, 0, 0, 10)):
                told = parting(chain, (3, places), chain, (3, other))
                found.append(-1 if told is None else told)
                if told is not None:
                    self.assertNotEqual(value_at(chain, 3, places, told), value_at(chain, 3, other, told))
                    for i in range(told):
                        self.assertEqual(value_at(chain, 3, places, i), value_at(chain, 3, other, i))
        self.assertGreater(max(found), 5)
        self.assertIn(-1, found)
        ring = ((59, 1),)
        self.assertEqual(parting(ring, (1, (3,)), ring, (1, (2,))), 56)
        self.assertEqual(parting(ring, (1, (3,)), ((2, 1),), (1, (0,))), 0)

    def test_period(self):
        self.assertEqual((lcm(49, 51, 4), lcm(15, 23, 29)), (9996, 10005))
        one = (4, (0, 0, 0))
        self.assertIs(are_one_map(NEAR, one, NEAR, one), True)
        odd = ((25, 1), (21, 1), (19, 1))
        self.assertEqual(lcm(25, 21, 19), 9975)
        self.assertIs(are_one_map(odd, one, odd, one), True)
        self.assertIsNone(parting(NEAR, one, NEAR, one))
        self.assertEqual(parting(NEAR, one, NEAR, (4, (0, 0, 1))), 1)
        for call in (are_one_map, parting):
            for arguments in (
                (OVER, one, OVER, one), (OVER, one, PAIR, (4, (0, 0))), (PAIR, (4, (0, 0)), OVER, one),
                (OVER[:1], (4, (0,)), OVER[1:], (4, (0, 0))), (NEAR, one, ((5, 1),), (4, (0,))),
                (OVER, one, OVER, (5, (0, 0, 0))),
            ):
                self.assertEqual(raised(self, TooMany, call, *arguments).limit, 10000)
            # An order counts also where the place is mute.
            mute = ((58, 2), (59, 1), (6, 1))
            self.assertEqual(ring_letters(mute, (1, 0, 0))[0], None)
            self.assertEqual(raised(self, TooMany, call, mute, (4, (1, 0, 0)), mute, (4, (1, 0, 0))).limit, 10000)
            raised(self, InvalidTuple, call, OVER, one, OVER, (4, (0, 0)))
            raised(self, InvalidChain, call, OVER, one, OVER + (None,), (4, (0, 0)))

    def test_wrong(self):
        for call in (are_one_map, parting):
            check_wrong(
                self, call, (PAIR, (2, (0, 0)), PAIR, (2, (0, 0))), ("chain", "class", "chain", "class"),
            )
            for chain, one in zip(NO_CHAINS, reversed(NO_CLASSES)):
                raised(self, InvalidTuple, call, PAIR, one, chain, (2, (0, 0)))
            for value in NO_INTEGERS:
                raised(self, InvalidTuple, call, PAIR, (value, (0, 0)), PAIR, (2, (0, 0)))

    def test_great_degrees(self):
        self.assertIs(are_one_map(PAIR, (MOST, (0, 0)), PAIR, (MOST, (0, 0))), True)
        self.assertIs(are_one_map(PAIR, (MOST, (0, 0)), PAIR, (-MOST, (0, 0))), False)
        self.assertEqual(parting(PAIR, (MOST, (0, 0)), PAIR, (MOST - 1, (0, 0))), 0)


class TestJoined(unittest.TestCase):
    def test_greedy_product(self):
        rng = random.Random(8)
        for _ in range(80):
            one, first, spots = some_class(rng, 3, 4)
            other, second, places = some_class(rng, 3, 4)
            joined = joined_chains(one, other)
            deal = plain_deal(one, first, spots)
            plain = plain_deal(other, second, places)
            moved = {(index + len(one), spot): many for (index, spot), many in plain.items()}
            told = class_of(joined, added(joined, deal, moved))
            product_map = greedy(round_of(other, second, places, 12), round_of(one, first, spots, 12))
            self.assertEqual(round_of(joined, told[0], told[1], 12), product_map)

    def test_greedy_product_of_rings(self):
        rng = random.Random(9)
        for _ in range(60):
            chain, degree, places = some_class(rng, 6, 4)
            made = plain_shift(12, degree - len(chain))
            for told in reversed(ring_letters(chain, places)):
                if told is not None:
                    m, c = told
                    many = [letter(12, at) for at in range(c, 12, m)]
                    for one in many:
                        made = greedy(made, one)
            self.assertEqual(round_of(chain, degree, places, 12), made)
            self.assertEqual(made.shift, degree - len(chain))
        self.assertEqual(round_of(((4, 2), (4, 2)), 7, (1, 3), 2), plain_shift(2, 5))
        self.assertEqual(widened(round_of(((2, 1),), 1, (0,), 2), 4), round_of(((2, 1),), 1, (0,), 4))

    def test_not_true(self):
        # Equal heaps with unlike maps, in one degree.
        chain = ((3, 1), (3, 1), (3, 1))
        heaps = {}
        for places in all_places(chain):
            heaps.setdefault(heap_of(chain, places), set()).add(window(chain, 3, places, 0, 2))
        self.assertTrue(any(len(maps) > 1 for maps in heaps.values()))
        # Exchanged rings.
        self.assertIs(are_one_map(PAIR, (2, (0, 1)), PAIR[::-1], (2, (1, 0))), False)

    def test_one_order(self):
        for places in all_places(EVEN):
            told = window(EVEN, 4, places, -8, 8)
            self.assertEqual(told, tuple(slow_map(EVEN, 4, places, -8, 8).values()))


if __name__ == "__main__":
    unittest.main()
