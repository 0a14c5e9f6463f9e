import random
import unittest

from ringstairs.ends.turned import (
    backward, flipped, is_least_class, is_two_sided, least_class, least_degree, rest_of, two_sides,
)
from ringstairs.errors import InvalidNumber, TooMany
from ringstairs.fill.fillings import some_filling
from ringstairs.heap.heaps import box, heap_of, turned_over
from ringstairs.link.chains import added, at_ends, degree_of, is_deal, less, order_of, written
from ringstairs.link.classes import are_alike, class_of, lent, plain_deal
from ringstairs.rich.richness import canonical, richness
from ringstairs.turns.ends import end_table, window
from ringstairs.webs.fire import web_deal, web_of, web_richness
from tests import naive
from tests.common import EVEN, LONG, MOST, NO_TIMES, PAIR, TRIO, TWELVE, check_judge, check_wrong, raised
from tests.samples import all_places, random_chain, random_deal, random_places


class TestExample(unittest.TestCase):
    def test_example(self):
        self.assertEqual(
            [
                rest_of(PAIR, {(0, 1): 3}), backward(PAIR, {(0, 2): 1, (1, 3): 2}),
                flipped(TRIO, {(1, 1): 1, (1, 0): 2}, 1),
            ],
            [
                {(0, 0): 2, (0, 1): -3}, (((4, 1), (3, 1)), {(0, 2): 2, (1, 2): 1}),
                (((5, 1), (4, 2), (7, 3)), {(1, 0): 2, (1, 3): 1}),
            ],
        )

    def test_wrong(self):
        check_wrong(self, rest_of, (PAIR, {(0, 1): 1}), ("chain", "deal"))
        check_wrong(self, backward, (PAIR, {(0, 1): 1}), ("chain", "deal"))
        check_wrong(self, flipped, (PAIR, {(0, 1): 1}, 1), ("chain", "deal", "ring index"))
        for call in (least_degree, least_class):
            check_wrong(self, call, (PAIR, 1), ("chain", "times"))
        check_wrong(self, is_least_class, (PAIR, 1, None), ("chain", "times", None))
        for call in (is_two_sided, two_sides):
            check_wrong(self, call, (PAIR,), ("chain",))

    def test_great_numbers(self):
        # Both names of a joint, together too long.
        deal = {(0, 0): MOST, (1, 1): 1}
        for call in (lambda: rest_of(PAIR, {(0, 0): -MOST}), lambda: backward(PAIR, deal), lambda: flipped(PAIR, deal, 1)):
            self.assertEqual(raised(self, TooMany, call).limit, 60)
        self.assertEqual(rest_of(PAIR, {(0, 0): -MOST + 2}), {(0, 0): MOST})
        self.assertEqual(rest_of(PAIR, {(0, 0): MOST, (1, 1): 1}), {(0, 0): 2 - LONG})
        self.assertEqual(backward(PAIR, {(0, 0): MOST}), (((4, 1), (3, 1)), {(0, 0): MOST}))
        self.assertEqual(flipped(PAIR, {(0, 0): MOST}, 0), (((3, 2), (4, 1)), {(0, 0): MOST}))
        self.assertEqual(raised(self, InvalidNumber, flipped, PAIR, deal, 2).given, 2)
        self.assertEqual(flipped(TWELVE, {(11, 1): 1}, 11), (TWELVE[:-1] + ((4, 1),), {(11, 3): 1}))
        self.assertEqual(raised(self, InvalidNumber, flipped, TWELVE, {}, 12).given, 12)


class TestTurned(unittest.TestCase):
    def deals(self, seed, many, rings=12, places=9):
        rng = random.Random(seed)
        for _ in range(many):
            chain = random_chain(rng, rings, places)
            yield rng, chain, random_deal(rng, chain, 4)

    def test_rests(self):
        for rng, chain, deal in self.deals(1, 120):
            rest = rest_of(chain, deal)
            g = len(chain)
            degree, places = class_of(chain, deal)
            self.assertEqual(rest, less(chain, canonical(chain), deal))
            self.assertEqual(list(rest), sorted(rest))
            turned = tuple(-x % ring[0] for x, ring in zip(places, chain))
            self.assertEqual(class_of(chain, rest), (2 * g - 2 - degree, turned))
            self.assertEqual(heap_of(chain, turned), turned_over(heap_of(chain, places)))
            self.assertEqual(richness(chain, deal) - richness(chain, rest), degree + 1 - g)
            self.assertEqual(rest_of(chain, rest), written(chain, deal))
            a, b = rng.randint(-5, 5), rng.randint(-5, 5)
            self.assertEqual(
                rest_of(chain, added(chain, deal, at_ends(chain, a, b))), added(chain, rest, at_ends(chain, -a, -b)))
            self.assertEqual(
                end_table(chain, degree, places, a, b),
                end_table(chain, 2 * g - 2 - degree, turned, -a, -b) + degree + a + b + 1 - g)

    def test_backward(self):
        for rng, chain, deal in self.deals(2, 120):
            turned, moved = backward(chain, deal)
            self.assertEqual(turned, chain[::-1])
            self.assertIs(is_deal(turned, moved), True)
            self.assertEqual((written(turned, moved), list(moved)), (moved, sorted(moved)))
            self.assertEqual(backward(turned, moved), (chain, written(chain, deal)))
            self.assertEqual(richness(turned, moved), richness(chain, deal))
            degree, places = class_of(chain, deal)
            back_degree, back_places = class_of(turned, moved)
            self.assertEqual(back_degree, degree)
            a, b = rng.randint(-6, 6), rng.randint(-6, 6)
            self.assertEqual(
                end_table(chain, degree, places, a, b), end_table(turned, degree, back_places, b, a))
            self.assertEqual(
                backward(chain, added(chain, deal, at_ends(chain, a, b)))[1],
                added(turned, moved, at_ends(turned, b, a)))
            back = dict(zip(range(-60, 61), window(turned, degree, back_places, -60, 60)))
            for i, value in zip(range(-9, 10), window(chain, degree, places, -9, 9)):
                self.assertEqual(back[-value], -i)

    def test_flipped(self):
        for rng, chain, deal in self.deals(3, 120):
            index = rng.randrange(len(chain))
            turned, moved = flipped(chain, deal, index)
            many, door = chain[index]
            self.assertEqual(turned, chain[:index] + ((many, many - door),) + chain[index + 1:])
            self.assertEqual((written(turned, moved), list(moved)), (moved, sorted(moved)))
            self.assertEqual(flipped(turned, moved, index), (chain, written(chain, deal)))
            degree, places = class_of(chain, deal)
            told = places[:index] + (-places[index] % many,) + places[index + 1:]
            self.assertEqual(class_of(turned, moved), (degree, told))
            self.assertEqual(heap_of(turned, told), heap_of(chain, places))
            self.assertEqual(richness(turned, moved), richness(chain, deal))
            self.assertEqual(
                window(turned, degree, told, -9, 9), window(chain, degree, places, -9, 9))

    def test_webs(self):
        # Flipped and backward chains are the same web: the richness by its definition.
        for rng, chain, deal in self.deals(4, 60, 3, 4):
            if len(naive.chain_chips(chain, {})) > 8:
                continue
            told = web_richness(web_of(chain), web_deal(chain, deal), 4)
            for turned, moved in (backward(chain, deal), flipped(chain, deal, rng.randrange(len(chain)))):
                self.assertEqual(web_richness(web_of(turned), web_deal(turned, moved), 4), told)
                self.assertEqual(degree_of(turned, moved), degree_of(chain, deal))

    def test_lendings_turn_too(self):
        for rng, chain, deal in self.deals(5, 60):
            other = lent(chain, deal, {chain_place: 1 for chain_place in [(0, chain[0][1])]})
            self.assertIs(are_alike(chain, deal, other), True)
            turned, moved = backward(chain, deal)
            self.assertIs(are_alike(turned, moved, backward(chain, other)[1]), True)
            self.assertIs(are_alike(chain, rest_of(chain, deal), rest_of(chain, other)), True)
            index = rng.randrange(len(chain))
            turned, moved = flipped(chain, deal, index)
            self.assertIs(are_alike(turned, moved, flipped(chain, other, index)[1]), True)

    def test_both_names(self):
        self.assertEqual(backward(PAIR, {(0, 0): 1, (1, 1): 2}), (((4, 1), (3, 1)), {(0, 0): 3}))
        self.assertEqual(flipped(PAIR, {(0, 0): 1, (1, 1): 2}, 1), (((3, 1), (4, 3)), {(0, 0): 3}))
        self.assertEqual(flipped(PAIR, {(0, 0): 1, (1, 1): -1}, 0), (((3, 2), (4, 1)), {}))
        self.assertEqual(rest_of(PAIR, {(0, 0): 1, (1, 1): 1}), {})
        self.assertEqual(rest_of(PAIR, {}), {(0, 0): 2})


class TestLeast(unittest.TestCase):
    def test_small_chains(self):
        rng = random.Random(6)
        for _ in range(40):
            chain = random_chain(rng, 4, 4)
            g = len(chain)
            for k in range(g + 2):
                rich = {}
                for degree in range(-1, 2 * g + k + 1):
                    rich[degree] = [
                        x for x in all_places(chain) if richness(chain, plain_deal(chain, degree, x)) >= k]
                least = min(degree for degree in rich if rich[degree])
                self.assertEqual(least_degree(chain, k), least)
                degree, places = least_class(chain, k)
                self.assertEqual(degree, least)
                self.assertIn(places, rich[least])
                for x in all_places(chain):
                    self.assertIs(is_least_class(chain, k, (least, x)), x in rich[least])
                    self.assertIs(is_least_class(chain, k, (least + 1, x)), False)
                    self.assertIs(is_least_class(chain, k, (least - 1, x)), False)

    def test_great_chains(self):
        rng = random.Random(7)
        chains = [TWELVE, ((2, 1),) * 12, ((3, 1),) * 12, ((60, 7),) * 12, ((4, 2), (6, 3)) * 6, ((2, 1), (3, 1)) * 6]
        chains += [random_chain(rng, 12, 12) for _ in range(25)]
        for chain in chains:
            g = len(chain)
            ahead = -1
            for k in range(41):
                degree = least_degree(chain, k)
                self.assertTrue(degree >= ahead + 1)
                ahead = degree
                rows = max([r for r in range(1, g - k + 1) if some_filling(chain, box(k + 1, r)) is not None], default=0)
                self.assertEqual(degree, g + k - rows)
                found = least_class(chain, k)
                self.assertEqual(found[0], degree)
                self.assertIs(is_least_class(chain, k, found), True)
                self.assertTrue(richness(chain, plain_deal(chain, *found)) >= k)
                if k >= g:
                    self.assertEqual(degree, g + k)
                if k == g - 1 and k >= 1:
                    self.assertEqual(degree, 2 * g - 2)
            self.assertEqual(least_degree(chain, 0), 0)

    def test_one_ring(self):
        for ring in ((2, 1), (60, 7), (6, 3)):
            self.assertEqual([least_degree((ring,), k) for k in range(41)], [0] + list(range(2, 42)))

    def test_limits(self):
        for value in NO_TIMES + (41, -1):
            self.assertIs(raised(self, InvalidNumber, least_degree, PAIR, value).given, value)
        self.assertEqual(least_degree(TWELVE, 40), 52)
        self.assertEqual(least_degree(PAIR, 40), 42)

    def test_judge(self):
        right = [(2, x) for x in all_places(PAIR) if richness(PAIR, plain_deal(PAIR, 2, x)) >= 1]
        check_judge(self, is_least_class, (PAIR, 1), right)
        for value in (
            [2, (0, 1)], (2, [0, 1]), (2, (0, 1), 0), (2, (0,)), (2, (False, 1)), (2, (0, True)), (2, (3, 1)), (2, None),
            (True, (0, 1)), (3, (0, 1)), ("2", (0, 1)), (2, (0, 1, 0)),
        ):
            self.assertIs(is_least_class(PAIR, 1, value), False)
        self.assertIs(is_least_class(PAIR, 1, (2, (0, 1))), True)
        check_judge(self, is_least_class, (PAIR, 5), [(7, x) for x in all_places(PAIR)])

    def test_not_true(self):
        self.assertTrue(any(
            least_degree(chain, 1) != (len(chain) + 3) // 2 for chain in (EVEN, ((2, 1),) * 6, ((5, 1),) * 4)))
        chain = ((3, 1), (4, 1), (2, 1))
        self.assertTrue(any(heap_of(chain, x) != heap_of(chain[::-1], x[::-1]) for x in all_places(chain)))


class TestTwoSides(unittest.TestCase):
    def test_small_chains(self):
        rng = random.Random(8)
        chains = [random_chain(rng, 4, 5) for _ in range(60)]
        chains += [((3, 1), (2, 1), (4, 2), (5, 2)), EVEN, ((5, 1), (6, 3), (3, 1)), ((3, 1), (3, 1), (3, 1)), ((60, 1),)]
        for chain in chains:
            right = tuple(x for x in all_places(chain) if richness(chain, plain_deal(chain, 2, x)) >= 1)
            self.assertEqual(two_sides(chain), right)
            self.assertIs(is_two_sided(chain), bool(right))
            self.assertIs(
                is_two_sided(chain), len(chain) <= 2 or all(order_of(ring) == 2 for ring in chain[1:-1]))

    def test_great_chains(self):
        rng = random.Random(9)
        for g in range(2, 13):
            middle = tuple(rng.choice(((2, 1), (4, 2), (60, 30), (6, 3))) for _ in range(g - 2))
            for first, last in (((60, 7), (59, 3)), ((2, 1), (9, 6)), ((5, 2), (2, 1))):
                chain = (first,) + middle + (last,)
                self.assertIs(is_two_sided(chain), True)
                self.assertEqual(len(two_sides(chain)), 1)
                x = two_sides(chain)[0]
                self.assertTrue(richness(chain, plain_deal(chain, 2, x)) >= 1)
                for _ in range(20):
                    other = random_places(rng, chain)
                    self.assertIs(richness(chain, plain_deal(chain, 2, other)) >= 1, other == x)
                if g > 2:
                    turned = chain[:1] + ((3, 1),) + chain[2:]
                    self.assertEqual((is_two_sided(turned), two_sides(turned)), (False, ()))


if __name__ == "__main__":
    unittest.main()
