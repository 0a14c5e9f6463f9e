import itertools
import random
import unittest

from ringstairs.errors import InvalidDeal, TooMany
from ringstairs.link.chains import places_of
from ringstairs.link.classes import are_alike, lendings, lent
from ringstairs.rich.richness import canonical, richness
from ringstairs.webs import fire
from ringstairs.webs.fire import (
    debt_order, is_debt_order, is_reduced, is_web, is_web_deal, is_web_taking, is_without_debt, lent_web, reduced,
    ring_number, web_canonical, web_deal, web_lendings, web_of, web_richness, web_taking, without_debt,
)
from tests import naive
from tests.common import (
    LONG, MOST, NO_WEB_DEALS, NO_WEBS, PAIR, PILE, SQUARE, TRIANGLE, check_judge, check_wrong, raised,
)
from tests.samples import random_chain, random_deal, random_web

POINT = (1, ())
PATH = (12, tuple((p, p + 1) for p in range(11)))


def random_web_deal(rng, web, most):
    return tuple(rng.randint(-most, most) for _ in range(web[0]))


def joined_full():
    """Twelve places, forty ties, some of them doubled."""
    ties = [(p, p + 1) for p in range(11)] * 2 + [(p, p + 2) for p in range(10)] + [(0, 11)] * 8
    return (12, tuple(sorted(ties)))


class TestForms(unittest.TestCase):
    def test_constants(self):
        told = (fire.MOST_PLACES, fire.MOST_TIES, fire.MOST_CHIPS, fire.MOST_TAKEN)
        self.assertEqual(told, (12, 40, 100, 4))

    def test_example(self):
        self.assertEqual(
            [
                reduced(TRIANGLE, 0, (0, 2, -1)), without_debt(TRIANGLE, (0, 1, -1)),
                web_richness(TRIANGLE, (1, 1, 0), 4), ring_number(TRIANGLE),
            ],
            [(1, 0, 0), None, 1, 1],
        )

    def test_is_web(self):
        good = (POINT, PATH, TRIANGLE, SQUARE, joined_full(), (2, ((0, 1),) * 40), (2, ((0, 1),)))
        for web in good:
            self.assertIs(is_web(web), True, web)
        for value in NO_WEBS + (
            (13, tuple((p, p + 1) for p in range(12))), (2, ((0, 1),) * 41), (12, PATH[1][1:]), (1, ((0, 0),)),
            (12, joined_full()[1] + ((10, 11),)), (3, ((1, 2), (0, 1))), (0, ()),
        ):
            self.assertIs(is_web(value), False, value)
        for value in PILE:
            self.assertIs(type(is_web(value)), bool)

    def test_connection_is_seen_in_any_order(self):
        rng = random.Random(1)
        for _ in range(200):
            web = random_web(rng, 12, 14)
            self.assertIs(is_web(web), True)
            for tie in set(web[1]):
                left = tuple(row for row in web[1] if row != tie)
                groups = list(range(web[0]))
                for _ in range(web[0]):
                    for p, q in left:
                        groups[p] = groups[q] = min(groups[p], groups[q])
                self.assertIs(is_web((web[0], left)), len(set(groups)) == 1)

    def test_is_web_deal(self):
        right = [(0, 0, 0), (100, -100, 5), (1, 0, -1), (3, 1, 0), (3, 1, 1)] + [
            value for value in PILE
            if isinstance(value, tuple) and len(value) == 3 and all(type(x) is int and abs(x) < 101 for x in value)
        ]
        check_judge(self, is_web_deal, (TRIANGLE,), right)
        for value in NO_WEB_DEALS:
            self.assertIs(is_web_deal(TRIANGLE, value), False, value)
        for value in ((101, 0, 0), (0, -101, 0), (0, 0, True)):
            self.assertIs(is_web_deal(TRIANGLE, value), False)
        self.assertIs(is_web_deal(POINT, (-100,)), True)
        check_wrong(self, is_web_deal, (TRIANGLE, None), ("web", None))


class TestLending(unittest.TestCase):
    def test_lent(self):
        self.assertEqual(lent_web(SQUARE, (0, 0, 0, 0), (0, 0, 1, 0)), (1, 0, -3, 2))
        self.assertEqual(lent_web(SQUARE, (1, 2, 3, 4), (7, 7, 7, 7)), (1, 2, 3, 4))
        self.assertEqual(lent_web(POINT, (5,), (9,)), (5,))
        self.assertEqual(lent_web(TRIANGLE, (0, 0, 0), (-1, 0, 0)), (2, -1, -1))

    def test_lent_tie_by_tie(self):
        rng = random.Random(2)
        for _ in range(100):
            web = random_web(rng, 12, 40)
            deal, moves = random_web_deal(rng, web, 100), random_web_deal(rng, web, 10 ** 9)
            self.assertEqual(lent_web(web, deal, moves), tuple(naive.lend(web[1], deal, moves)))

    def test_lent_too_many_digits(self):
        self.assertEqual(raised(self, TooMany, lent_web, TRIANGLE, (0, 0, 0), (MOST, 0, 0)).limit, 60)
        self.assertEqual(lent_web(TRIANGLE, (1, 0, 0), (MOST, MOST, MOST)), (1, 0, 0))
        self.assertEqual(lent_web((2, ((0, 1),)), (0, 0), (MOST, 0)), (-MOST, MOST))
        raised(self, TooMany, lent_web, (2, ((0, 1),)), (-1, 1), (MOST, 0))

    def test_lendings(self):
        rng = random.Random(3)
        found = 0
        for _ in range(200):
            web = random_web(rng, 6, 12)
            one = random_web_deal(rng, web, 40)
            other = lent_web(web, one, random_web_deal(rng, web, 2))
            self.assertEqual(lent_web(web, one, web_lendings(web, one, other)), other)
            other = list(random_web_deal(rng, web, 6))
            other[0] += sum(one) - sum(other)
            if abs(other[0]) <= 100:
                told = web_lendings(web, one, tuple(other))
                self.assertEqual(told is None, naive.find_moves(web[0], web[1], one, other) is None)
                found += told is None
                if told is not None:
                    self.assertEqual(lent_web(web, one, told), tuple(other))
        self.assertGreater(found, 20)
        self.assertIsNone(web_lendings(TRIANGLE, (1, 0, 0), (0, 0, 0)))
        self.assertIsNone(web_lendings(TRIANGLE, (1, 0, 0), (0, 1, 0)))
        self.assertIsNone(web_lendings(POINT, (1,), (0,)))
        self.assertEqual(lent_web(POINT, (4,), web_lendings(POINT, (4,), (4,))), (4,))

    def test_far_lendings(self):
        one, other = (100,) + (0,) * 10 + (-100,), (-100,) + (0,) * 10 + (100,)
        self.assertEqual(lent_web(PATH, one, web_lendings(PATH, one, other)), other)

    def test_wrong(self):
        zeros = (0, 0, 0)
        check_wrong(self, lent_web, (TRIANGLE, zeros, zeros), ("web", "web deal", "moves"))
        check_wrong(self, web_lendings, (TRIANGLE, zeros, zeros), ("web", "web deal", "web deal"))


def is_reduced_by_sets(web, place, deal):
    """By the sets of other places, each tried."""
    others = [p for p in range(web[0]) if p != place]
    if any(deal[p] < 0 for p in others):
        return False
    for many in range(1, len(others) + 1):
        for chosen in itertools.combinations(others, many):
            out = {p: 0 for p in chosen}
            for p, q in web[1]:
                if (p in out) != (q in out):
                    out[p if p in out else q] += 1
            if not any(deal[p] < out[p] for p in chosen):
                return False
    return True


class TestReduced(unittest.TestCase):
    def test_against_sets(self):
        rng = random.Random(4)
        seen = {True: 0, False: 0}
        for _ in range(400):
            web = random_web(rng, 5, 9)
            place = rng.randrange(web[0])
            deal = random_web_deal(rng, web, 3)
            wished = is_reduced_by_sets(web, place, deal)
            self.assertIs(is_reduced(web, place, deal), wished)
            seen[wished] += 1
            told = reduced(web, place, random_web_deal(rng, web, 100))
            self.assertTrue(is_reduced_by_sets(web, place, told))
        self.assertTrue(min(seen.values()) > 30)

    def test_reduced_is_alike_and_reduced(self):
        rng = random.Random(5)
        for _ in range(150):
            web = random_web(rng, 12, 40)
            place = rng.randrange(web[0])
            deal = random_web_deal(rng, web, rng.choice((1, 10, 100)))
            told = reduced(web, place, deal)
            self.assertIs(type(told), tuple)
            self.assertEqual(sum(told), sum(deal))
            moves = naive.find_moves(web[0], web[1], deal, told)
            self.assertIsNotNone(moves)
            if is_web_deal(web, told):
                self.assertIs(is_reduced(web, place, told), True)
                self.assertEqual(reduced(web, place, told), told)
                behind = lent_web(web, told, random_web_deal(rng, web, 1))
                if is_web_deal(web, behind):
                    self.assertIs(is_reduced(web, place, behind), behind == told)
                    self.assertEqual(reduced(web, place, behind), told)

    def test_great_numbers(self):
        self.assertEqual(reduced(PATH, 11, (100,) * 12), (0,) * 11 + (1200,))
        self.assertEqual(reduced(PATH, 0, (-100,) * 12), (-1200,) + (0,) * 11)
        self.assertEqual(reduced(POINT, 0, (-7,)), (-7,))
        self.assertIs(is_reduced(POINT, 0, (-7,)), True)
        chain = (2, ((0, 1),) * 40)
        self.assertEqual(reduced(chain, 0, (100, -100)), (-20, 20))
        self.assertEqual(reduced(chain, 1, (100, -100)), (20, -20))

    def test_ways_that_are_long(self):
        deal = tuple(100 if p % 2 else -100 for p in range(12))
        for web in (PATH, joined_full(), (12, PATH[1][:-1] + ((0, 11),))):
            if is_web(web):
                for place in (0, 5, 11):
                    told = reduced(web, place, deal)
                    self.assertEqual(sum(told), 0)
                    self.assertIsNotNone(naive.find_moves(web[0], web[1], deal, told))

    def test_wrong(self):
        zeros = (0, 0, 0)
        for call in (reduced, is_reduced):
            check_wrong(self, call, (TRIANGLE, 1, zeros), ("web", "spot", "web deal"))


class TestDebt(unittest.TestCase):
    def test_just_one_paper(self):
        rng = random.Random(6)
        seen = {True: 0, False: 0}
        for _ in range(400):
            web = random_web(rng, rng.choice((4, 12)), rng.choice((6, 40)))
            deal = random_web_deal(rng, web, rng.choice((2, 100)))
            free, never = without_debt(web, deal), debt_order(web, deal)
            self.assertNotEqual(free is None, never is None)
            seen[free is None] += 1
            if free is not None:
                self.assertIs(is_without_debt(web, deal, free), True)
                self.assertTrue(min(lent_web(web, deal, free)) >= 0)
            else:
                self.assertIs(is_debt_order(web, deal, never), True)
                self.assertEqual(sorted(never[0]), list(range(web[0])))
            for place in range(web[0]):
                self.assertEqual(reduced(web, place, deal)[place] < 0, free is None)
        self.assertTrue(min(seen.values()) > 50)

    def test_against_trying(self):
        rng = random.Random(7)
        for _ in range(150):
            web = random_web(rng, 4, 6)
            deal = random_web_deal(rng, web, 2)
            self.assertEqual(without_debt(web, deal) is not None, naive.can_pay(web[0], web[1], deal))

    def test_deals_of_orders_cannot_pay(self):
        rng = random.Random(8)
        for _ in range(60):
            web = random_web(rng, 6, 10)
            order = rng.sample(range(web[0]), web[0])
            deal = [-1] * web[0]
            for p, q in web[1]:
                deal[max(p, q, key=order.index)] += 1
            zeros = (0,) * web[0]
            self.assertIsNone(without_debt(web, tuple(deal)))
            self.assertIs(is_debt_order(web, tuple(deal), (tuple(order), zeros)), True)
            fewer = tuple(x - rng.randint(0, 2) for x in deal)
            self.assertIs(is_debt_order(web, fewer, (tuple(order), zeros)), True)
            place = rng.randrange(web[0])
            more = tuple(x + (p == place) for p, x in enumerate(deal))
            self.assertIs(is_debt_order(web, more, (tuple(order), zeros)), False)

    def test_judges_take_right_papers_of_others(self):
        deal = (3, -1, 0)
        for shift in (0, 5, -MOST + 2, MOST - 3):
            moves = tuple(shift + x for x in (1, 0, 0))
            self.assertIs(is_without_debt(TRIANGLE, deal, moves), True)
        self.assertIs(is_without_debt(TRIANGLE, deal, (0, 0, 0)), False)
        self.assertIs(is_without_debt(TRIANGLE, deal, (1, 0, True)), False)
        self.assertIs(is_without_debt(TRIANGLE, deal, (LONG, LONG - 1, LONG - 1)), False)
        check_judge(self, is_without_debt, (TRIANGLE, deal), [(1, 0, 0), (0, -1, -1)])
        for value in ((1, 0), (1, 0, 0, 0), [1, 0, 0], None, {0: 1, 1: 0, 2: 0}):
            self.assertIs(is_without_debt(TRIANGLE, deal, value), False)

    def test_turned_papers_of_never(self):
        deal = (-1, 0, 1)
        self.assertIsNone(without_debt(TRIANGLE, deal))
        # Its chips are just those of one order.
        right = [((0, 1, 2), (0, 0, 0)), ((0, 1, 2), (-4, -4, -4))]
        check_judge(self, is_debt_order, (TRIANGLE, deal), right)
        for value in (
            ((0, 2, 1), (0, 0, 0)), ((1, 0, 2), (0, 0, 0)), ((0, 1, 2), (0, 1, 0)), ((0, 1), (0, 0, 0)),
            ((0, 1, 1), (0, 0, 0)), ((0, 1, 2, 2), (0, 0, 0)), ((0, True, 2), (0, 0, 0)), ([0, 1, 2], (0, 0, 0)),
            ((0, 1, 2), [0, 0, 0]), ((0, 1, 2), (0, 0, False)), [(0, 1, 2), (0, 0, 0)], ((0, 1, 2),), None,
            ((0, 1, 2), (0, 0, 0), ()), ((0, 1, 3), (0, 0, 0)), ((0, 1, 2), (LONG, LONG, LONG)), ((0, 1, 2), None),
        ):
            self.assertIs(is_debt_order(TRIANGLE, deal, value), False, value)
        self.assertIs(is_debt_order(TRIANGLE, (0, 0, 0), ((0, 1, 2), (0, 0, 0))), False)
        self.assertIs(is_debt_order(POINT, (-1,), ((0,), (3,))), True)

    def test_wrong(self):
        zeros = (0, 0, 0)
        for call in (without_debt, debt_order):
            check_wrong(self, call, (TRIANGLE, zeros), ("web", "web deal"))
        for call in (is_without_debt, is_debt_order):
            check_wrong(self, call, (TRIANGLE, zeros, None), ("web", "web deal", None))


class TestRichness(unittest.TestCase):
    def test_against_the_definition(self):
        rng = random.Random(9)
        seen = set()
        for _ in range(120):
            web = random_web(rng, 4, 6)
            deal = random_web_deal(rng, web, 2)
            wished = naive.richness(web[0], web[1], deal)
            seen.add(wished)
            for most in range(5):
                self.assertEqual(web_richness(web, deal, most), min(wished, most))
        self.assertTrue(seen >= {-1, 0, 1, 2})

    def test_takings(self):
        rng = random.Random(10)
        for _ in range(250):
            web = random_web(rng, rng.choice((3, 5, 12)), rng.choice((6, 20, 40)))
            deal = random_web_deal(rng, web, rng.choice((1, 3, 20)))
            rich = web_richness(web, deal, 4)
            for k in range(5):
                told = web_taking(web, deal, k)
                self.assertEqual(told is None, rich >= k)
                if told is not None:
                    self.assertIs(is_web_taking(web, deal, k, told), True)
                    self.assertEqual(sum(told), k)
                    left = tuple(x - y for x, y in zip(deal, told))
                    self.assertIsNone(without_debt(web, left))

    def test_every_taking_is_judged(self):
        rng = random.Random(11)
        for _ in range(40):
            web = random_web(rng, 5, 8)
            deal = random_web_deal(rng, web, 2)
            for k in range(4):
                for value in naive.all_takings(web[0], k):
                    left = tuple(x - y for x, y in zip(deal, value))
                    self.assertIs(is_web_taking(web, deal, k, value), without_debt(web, left) is None)

    def test_judge_of_takings(self):
        check_judge(self, is_web_taking, (TRIANGLE, (1, 1, 0), 2), [(1, 0, 1), (0, 1, 1), (2, 0, 0), (0, 2, 0)])
        self.assertIs(is_web_taking(TRIANGLE, (1, 1, 0), 2, (1, 1, 0)), False)
        self.assertIs(is_web_taking(TRIANGLE, (1, 1, 0), 2, (3, 0, -1)), False)
        self.assertIs(is_web_taking(TRIANGLE, (1, 1, 0), 3, (1, 0, 1)), False)
        self.assertIs(is_web_taking(TRIANGLE, (1, 1, 0), 1, (True, 0, 0)), False)
        self.assertIs(is_web_taking(TRIANGLE, (-1, 0, 0), 0, (0, 0, 0)), True)
        self.assertIs(is_web_taking(TRIANGLE, (-100, 0, 0), 4, (4, 0, 0)), True)
        self.assertEqual(web_taking(TRIANGLE, (-1, 0, 0), 0), (0, 0, 0))

    def test_bounds(self):
        self.assertEqual(web_richness(joined_full(), (100,) * 12, 4), 4)
        self.assertEqual(web_richness(joined_full(), (-100,) * 12, 4), -1)
        self.assertEqual(web_richness(joined_full(), (0,) * 12, 4), 0)
        self.assertEqual(web_richness(POINT, (3,), 4), 3)
        self.assertEqual(web_richness(POINT, (3,), 2), 2)
        self.assertEqual(web_richness(POINT, (-1,), 0), -1)
        self.assertIsNone(web_taking(joined_full(), (100,) * 12, 4))

    def test_canonical(self):
        self.assertEqual(web_canonical(SQUARE), (0, 0, 1, 1))
        self.assertEqual(web_canonical(POINT), (-2,))
        self.assertEqual([ring_number(web) for web in (POINT, PATH, SQUARE, joined_full())], [0, 0, 2, 29])
        rng = random.Random(12)
        for _ in range(200):
            web = random_web(rng, 7, 12)
            rings, whole = ring_number(web), web_canonical(web)
            self.assertEqual(sum(whole), 2 * rings - 2)
            deal = random_web_deal(rng, web, 2)
            rest = tuple(x - y for x, y in zip(whole, deal))
            one, other = web_richness(web, deal, 4), web_richness(web, rest, 4)
            if one < 4 and other < 4:
                self.assertEqual(one - other, sum(deal) + 1 - rings)

    def test_wrong(self):
        zeros = (0, 0, 0)
        for call in (web_richness, web_taking):
            check_wrong(self, call, (TRIANGLE, zeros, 1), ("web", "web deal", "taken"))
        check_wrong(self, is_web_taking, (TRIANGLE, zeros, 1, None), ("web", "web deal", "taken", None))
        for call in (ring_number, web_canonical):
            check_wrong(self, call, (TRIANGLE,), ("web",))


class TestWebsOfChains(unittest.TestCase):
    def test_web_of(self):
        self.assertEqual(web_of(PAIR), (6, ((0, 1), (0, 2), (0, 3), (0, 4), (1, 2), (3, 5), (4, 5))))
        self.assertEqual(web_of(((2, 1),)), (2, ((0, 1), (0, 1))))
        rng = random.Random(13)
        for _ in range(100):
            chain = random_chain(rng, 5, 5)
            if len(places_of(chain)) <= 12:
                web = web_of(chain)
                self.assertTrue(is_web(web))
                self.assertEqual(ring_number(web), len(chain))
                self.assertEqual(len(web[1]), sum(n for n, _ in chain))

    def test_twelve_and_thirteen_places(self):
        self.assertEqual(web_of(((12, 5),))[0], 12)
        self.assertEqual(web_of(((2, 1),) * 11)[0], 12)
        self.assertEqual(len(web_of(((2, 1),) * 11)[1]), 22)
        for chain in (((13, 5),), ((2, 1),) * 12, ((6, 1), (8, 1))):
            self.assertEqual(raised(self, TooMany, web_of, chain).limit, 12)
            self.assertEqual(raised(self, TooMany, web_deal, chain, {}).limit, 12)
            raised(self, InvalidDeal, web_deal, chain, {(0, 99): 1})

    def test_web_deal(self):
        self.assertEqual(web_deal(PAIR, {(1, 1): 2, (0, 0): 1, (1, 3): -4}), (3, 0, 0, 0, 0, -4))
        self.assertEqual(web_deal(PAIR, {(0, 1): 100, (1, 3): -100}), (0, 100, 0, 0, 0, -100))
        self.assertEqual(web_deal(PAIR, {(0, 0): MOST, (1, 1): -MOST}), (0,) * 6)
        self.assertEqual(web_deal(PAIR, {(0, 0): 60, (1, 1): 40}), (100, 0, 0, 0, 0, 0))
        for deal in ({(0, 1): 101}, {(0, 1): -101}, {(0, 0): 60, (1, 1): 41}, {(1, 0): MOST}):
            raised(self, InvalidDeal, web_deal, PAIR, deal)

    def test_lendings_and_richness_agree(self):
        rng = random.Random(14)
        for _ in range(150):
            chain = random_chain(rng, 4, 4)
            if len(places_of(chain)) > 12:
                continue
            web = web_of(chain)
            one, other = random_deal(rng, chain, 3), random_deal(rng, chain, 3)
            told = web_richness(web, web_deal(chain, one), 4)
            self.assertEqual(told, min(richness(chain, one), 4))
            moves = web_lendings(web, web_deal(chain, one), web_deal(chain, other))
            self.assertEqual(moves is not None, are_alike(chain, one, other))
            if moves is not None:
                last = places_of(chain).index((len(chain) - 1, 0))
                row = {place: many - moves[last] for place, many in zip(places_of(chain), moves)}
                self.assertEqual({p: m for p, m in row.items() if m}, lendings(chain, one, other))
            free = without_debt(web, web_deal(chain, one))
            if free is not None:
                last = places_of(chain).index((len(chain) - 1, 0))
                row = {p: m - free[last] for p, m in zip(places_of(chain), free) if m != free[last]}
                self.assertTrue(all(m >= 0 for m in lent(chain, one, row).values()))
            self.assertEqual(web_canonical(web), web_deal(chain, canonical(chain)))

    def test_wrong(self):
        check_wrong(self, web_of, (PAIR,), ("chain",))
        check_wrong(self, web_deal, (PAIR, {}), ("chain", "deal"))


if __name__ == "__main__":
    unittest.main()
