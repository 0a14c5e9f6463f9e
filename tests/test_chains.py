import random
import unittest

from ringstairs.errors import InvalidChain, InvalidDeal, InvalidNumber, TooMany
from ringstairs.link import chains
from ringstairs.link.chains import (
    added, at_ends, degree_of, does_let, has_debt, is_chain, is_deal, is_place, is_ring, joined_chains, left_end, less,
    multiplied, order_of, places_of, right_end, written,
)
from tests import naive
from tests.common import (
    EVEN, LONG, MOST, NO_CHAINS, NO_DEALS, NO_RINGS, PAIR, PILE, TRIO, TWELVE, check_judge, check_wrong, raised,
)
from tests.samples import random_chain, random_deal


class TestForms(unittest.TestCase):
    def test_constants(self):
        self.assertEqual((chains.MOST_RINGS, chains.MOST_PLACES, chains.MOST_DIGITS), (12, 60, 60))

    def test_example(self):
        self.assertEqual(
            [order_of((4, 2)), order_of((7, 3)), left_end(TRIO), right_end(TRIO), len(places_of(TRIO))],
            [2, 7, (0, 1), (2, 0), 14],
        )

    def test_is_ring(self):
        for places in range(2, 61):
            for door in range(1, places):
                self.assertIs(is_ring((places, door)), True)
            self.assertIs(is_ring((places, 0)), False)
            self.assertIs(is_ring((places, places)), False)
        for value in NO_RINGS:
            self.assertIs(is_ring(value), False, value)
        for value in PILE:
            self.assertIs(type(is_ring(value)), bool)

    def test_is_chain(self):
        for value in (PAIR, TRIO, EVEN, TWELVE, ((2, 1),), ((60, 59),) * 12):
            self.assertIs(is_chain(value), True)
        for value in NO_CHAINS + ((), ((3, 1),) * 13):
            self.assertIs(is_chain(value), False, value)
        for value in PILE:
            self.assertIs(type(is_chain(value)), bool)

    def test_is_place(self):
        right = [(0, 0), (0, 1), (0, 2), (1, 0), (1, 1), (1, 2), (1, 3)]
        check_judge(self, is_place, (PAIR,), right)
        for value in ((0, 3), (1, 4), (2, 0), (-1, 0), (0, -1), (True, 0), (0, True), [0, 0], (0,), (0, 0, 0), "00"):
            self.assertIs(is_place(PAIR, value), False)
        check_wrong(self, is_place, (PAIR, (0, 0)), ("chain", None))

    def test_is_deal(self):
        right = [{}, {(0, 0): 1}, {(0, 0): 0}, {(0, 1): 1}, {(0, 0): -5}, {(1, 1): MOST, (0, 0): -MOST}, {(0, 1): 0}]
        check_judge(self, is_deal, (PAIR,), right)
        for value in NO_DEALS:
            self.assertIs(is_deal(PAIR, value), False, value)
        self.assertIs(is_deal(TWELVE, {(4, 59): 1}), True)
        self.assertIs(is_deal(TWELVE, {(4, 60): 1}), False)
        check_wrong(self, is_deal, (PAIR, {}), ("chain", None))


class TestRings(unittest.TestCase):
    def test_order(self):
        self.assertEqual([order_of((2, 1)), order_of((60, 45)), order_of((60, 59)), order_of((6, 3))], [2, 4, 60, 2])
        check_wrong(self, order_of, ((3, 1),), ("ring",))

    def test_lets(self):
        for ring in ((2, 1), (4, 2), (7, 3), (60, 45)):
            for place in range(ring[0]):
                for diagonal in range(-65, 65):
                    told = does_let(ring, place, diagonal)
                    self.assertIs(told, (diagonal * ring[1] - place) % ring[0] == 0)

    def test_the_rests_that_a_place_lets(self):
        # One rest modulo the order, or none: a mute place.
        for ring in ((4, 2), (9, 6), (5, 3)):
            for place in range(ring[0]):
                told = [c for c in range(order_of(ring)) if does_let(ring, place, c)]
                mute = place % (ring[0] // order_of(ring)) != 0
                self.assertEqual(len(told), 0 if mute else 1)
                far = [c + 10 ** 30 * order_of(ring) for c in told]
                self.assertTrue(all(does_let(ring, place, c) for c in far))
        self.assertFalse(any(does_let((4, 2), 1, c) for c in range(-9, 9)))

    def test_lets_long_diagonals(self):
        self.assertIs(does_let((3, 1), 0, MOST), True)
        self.assertIs(does_let((3, 1), 1, MOST), False)
        self.assertIs(does_let((3, 1), 0, -MOST), True)

    def test_lets_wrong(self):
        check_wrong(self, does_let, ((3, 1), 2, 5), ("ring", "spot", "integer"))
        self.assertEqual(raised(self, InvalidNumber, does_let, (3, 1), 3, None).given, 3)
        self.assertEqual(raised(self, InvalidNumber, does_let, (3, 1), 2, LONG).given, LONG)


class TestPlaces(unittest.TestCase):
    def test_places_of(self):
        self.assertEqual(places_of(PAIR), ((0, 0), (0, 1), (0, 2), (1, 0), (1, 2), (1, 3)))
        self.assertEqual(places_of(((2, 1),)), ((0, 0), (0, 1)))
        self.assertEqual(places_of(EVEN), ((0, 0), (0, 1), (1, 0), (2, 0), (3, 0)))

    def test_places_are_each_once_and_ascend(self):
        for chain in (TRIO, TWELVE, ((60, 31),), ((60, 59),) * 12):
            told = places_of(chain)
            numbers, many = naive.chain_places(chain)
            self.assertEqual(sorted({numbers[place] for place in told}), list(range(many)))
            self.assertEqual(len(told), many)
            self.assertEqual(list(told), sorted(told))
            self.assertIn(left_end(chain), told)
            self.assertIn(right_end(chain), told)
            self.assertIs(type(told), tuple)
            for index in range(len(chain) - 1):
                self.assertIn((index, 0), told)

    def test_ends(self):
        self.assertEqual([left_end(PAIR), right_end(PAIR)], [(0, 1), (1, 0)])
        self.assertEqual([left_end(((60, 59),)), right_end(((60, 59),))], [(0, 59), (0, 0)])

    def test_wrong(self):
        for call in (places_of, left_end, right_end):
            check_wrong(self, call, (PAIR,), ("chain",))


class TestDeals(unittest.TestCase):
    def test_degree(self):
        self.assertEqual(degree_of(PAIR, {}), 0)
        self.assertEqual(degree_of(PAIR, {(0, 0): 3, (1, 1): -7, (0, 2): 0}), -4)
        # An integer that is returned by itself may be longer.
        self.assertEqual(degree_of(PAIR, {(0, 0): MOST, (0, 1): MOST}), 2 * MOST)
        check_wrong(self, degree_of, (PAIR, {}), ("chain", "deal"))

    def test_written(self):
        self.assertEqual(written(PAIR, {(1, 1): 2, (0, 0): 3}), {(0, 0): 5})
        self.assertEqual(written(PAIR, {(1, 1): 2, (0, 0): -2, (0, 1): 0}), {})
        self.assertEqual(written(PAIR, {(1, 1): 2}), {(0, 0): 2})
        # The left end of the first ring is no joint.
        self.assertEqual(written(PAIR, {(0, 1): 2, (1, 0): 1}), {(0, 1): 2, (1, 0): 1})
        self.assertEqual(list(written(PAIR, {(1, 3): 1, (0, 2): 4, (1, 1): 1})), [(0, 0), (0, 2), (1, 3)])
        check_wrong(self, written, (PAIR, {}), ("chain", "deal"))

    def test_written_shares_nothing(self):
        deal = {(0, 0): 1}
        told = written(PAIR, deal)
        told[(0, 2)] = 7
        self.assertEqual(deal, {(0, 0): 1})
        self.assertEqual(written(PAIR, deal), {(0, 0): 1})

    def test_sixty_and_sixty_one_digits(self):
        self.assertEqual(written(PAIR, {(0, 0): MOST - 1, (1, 1): 1}), {(0, 0): MOST})
        self.assertEqual(written(PAIR, {(0, 0): -MOST, (1, 1): 1}), {(0, 0): 1 - MOST})
        for sign in (1, -1):
            self.assertEqual(raised(self, TooMany, written, PAIR, {(0, 0): sign * MOST, (1, 1): sign}).limit, 60)

    def test_debt(self):
        self.assertIs(has_debt(PAIR, {}), False)
        self.assertIs(has_debt(PAIR, {(0, 0): -1, (1, 1): 1}), False)
        self.assertIs(has_debt(PAIR, {(0, 0): -2, (1, 1): 1}), True)
        self.assertIs(has_debt(PAIR, {(1, 0): -MOST}), True)
        self.assertIs(has_debt(PAIR, {(0, 0): MOST, (1, 1): MOST}), False)
        self.assertIs(has_debt(PAIR, {(0, 0): -MOST, (1, 1): -MOST}), True)
        check_wrong(self, has_debt, (PAIR, {}), ("chain", "deal"))

    def test_sums(self):
        self.assertEqual(added(PAIR, {(0, 0): 1, (0, 2): 2}, {(1, 1): 3, (0, 2): -2}), {(0, 0): 4})
        self.assertEqual(less(PAIR, {(0, 0): 1, (0, 2): 2}, {(1, 1): 3, (0, 2): -2}), {(0, 0): -2, (0, 2): 4})
        self.assertEqual(multiplied(PAIR, -3, {(0, 0): 1, (1, 1): 1, (1, 3): 2}), {(0, 0): -6, (1, 3): -6})
        self.assertEqual(multiplied(PAIR, 0, {(0, 0): 1}), {})

    def test_only_the_result_is_measured(self):
        big = {(0, 0): MOST, (1, 1): MOST}
        self.assertEqual(less(PAIR, big, big), {})
        self.assertEqual(added(PAIR, big, {(0, 0): -MOST}), {(0, 0): MOST})
        self.assertEqual(multiplied(PAIR, 0, big), {})
        self.assertEqual(added(PAIR, {(0, 0): MOST - 4}, {(0, 0): 4}), {(0, 0): MOST})
        for call, arguments in (
            (added, ({(0, 0): MOST}, {(1, 1): 1})), (less, ({(0, 0): -MOST}, {(0, 0): 1})), (added, (big, {})),
            (multiplied, (2, {(0, 0): MOST})), (multiplied, (MOST, {(0, 0): 11})), (multiplied, (1, big)),
        ):
            self.assertEqual(raised(self, TooMany, call, PAIR, *arguments).limit, 60)

    def test_sums_against_places_one_by_one(self):
        rng = random.Random(11)
        for _ in range(200):
            chain = random_chain(rng, 12, 60)
            one, other = random_deal(rng, chain, 50), random_deal(rng, chain, 10 ** 59)
            count = rng.randint(-5, 5)
            chips = naive.chain_chips(chain, one)
            more = naive.chain_chips(chain, other)
            for told, wished in (
                (written(chain, one), chips),
                (added(chain, one, other), [x + y for x, y in zip(chips, more)]),
                (less(chain, one, other), [x - y for x, y in zip(chips, more)]),
                (multiplied(chain, count, one), [count * x for x in chips]),
            ):
                self.assertEqual(naive.chain_chips(chain, told), wished)
                self.assertEqual(list(told), sorted(told))
                self.assertTrue(set(told) <= set(places_of(chain)))
                self.assertNotIn(0, told.values())
            self.assertEqual(degree_of(chain, one), sum(chips))
            self.assertIs(has_debt(chain, one), min(chips) < 0)

    def test_sums_wrong(self):
        check_wrong(self, added, (PAIR, {}, {}), ("chain", "deal", "deal"))
        check_wrong(self, less, (PAIR, {}, {}), ("chain", "deal", "deal"))
        check_wrong(self, multiplied, (PAIR, 1, {}), ("chain", "integer", "deal"))
        # TooMany comes behind all others.
        raised(self, InvalidDeal, added, PAIR, {(0, 0): MOST, (1, 1): MOST}, {(0, 0): True})

    def test_at_ends(self):
        self.assertEqual(at_ends(PAIR, 2, -3), {(0, 1): 2, (1, 0): -3})
        self.assertEqual(at_ends(PAIR, 0, 0), {})
        self.assertEqual(at_ends(((2, 1),), MOST, -MOST), {(0, 0): -MOST, (0, 1): MOST})
        self.assertEqual(list(at_ends(((2, 1),), 1, 1)), [(0, 0), (0, 1)])
        self.assertEqual(at_ends(TRIO, 0, 4), {(2, 0): 4})
        check_wrong(self, at_ends, (PAIR, 1, 2), ("chain", "integer", "integer"))


class TestJoined(unittest.TestCase):
    def test_joined(self):
        self.assertEqual(joined_chains(PAIR, TRIO), PAIR + TRIO)
        self.assertEqual(joined_chains(((2, 1),), ((3, 1),)), ((2, 1), (3, 1)))
        joined = joined_chains(PAIR, TRIO)
        self.assertEqual(written(joined, {(1, 0): 1, (2, 1): 1}), {(1, 0): 2})

    def test_twelve_and_thirteen(self):
        self.assertEqual(joined_chains(TWELVE[:5], TWELVE[5:]), TWELVE)
        self.assertEqual(raised(self, TooMany, joined_chains, TWELVE, ((3, 1),)).limit, 12)
        self.assertEqual(raised(self, TooMany, joined_chains, ((3, 1),), TWELVE).limit, 12)
        raised(self, InvalidChain, joined_chains, TWELVE, ())

    def test_wrong(self):
        check_wrong(self, joined_chains, (PAIR, PAIR), ("chain", "chain"))


if __name__ == "__main__":
    unittest.main()
