import copy
import random
import unittest

from ringstairs.errors import InvalidDeal, InvalidOperation, TooMany
from ringstairs.link.chains import added, at_ends, degree_of, left_end, less, places_of, right_end, written
from ringstairs.link.classes import (
    are_alike, class_less, class_of, class_sum, class_with_ends, is_lendings, is_tuple, lendings, lent, plain_deal,
)
from tests import naive
from tests.common import (
    EVEN, LONG, MOST, NO_PLACES, PAIR, PILE, TRIO, TWELVE, check_judge, check_wrong, raised,
)
from tests.samples import random_chain, random_deal, random_places


def random_moves(rng, chain, most):
    names = places_of(chain)
    told = {}
    for name in names:
        if name != right_end(chain) and rng.random() < 0.5:
            many = rng.randint(-most, most)
            if many:
                told[name] = many
    return told


class TestClasses(unittest.TestCase):
    def test_example(self):
        self.assertEqual(
            [
                class_of(PAIR, {(0, 0): 1}), class_of(PAIR, {(1, 2): 3}), plain_deal(PAIR, 2, (2, 3)),
                are_alike(PAIR, {(0, 1): 1, (0, 2): 1}, {(0, 0): 2}),
            ],
            [(1, (0, 0)), (3, (0, 1)), {(0, 2): 1, (1, 3): 1}, True],
        )

    def test_is_tuple(self):
        right = [(a, b) for a in range(3) for b in range(4)]
        check_judge(self, is_tuple, (PAIR,), right)
        for value in NO_PLACES:
            self.assertIs(is_tuple(PAIR, value), False, value)
        self.assertIs(is_tuple(TWELVE, (0,) * 12), True)
        self.assertIs(is_tuple(TWELVE, tuple(n - 1 for n, _ in TWELVE)), True)
        self.assertIs(is_tuple(TWELVE, tuple(n for n, _ in TWELVE)), False)
        check_wrong(self, is_tuple, (PAIR, None), ("chain", None))

    def test_both_names_of_a_joint_tell_one_class(self):
        rng = random.Random(2)
        for _ in range(100):
            chain = random_chain(rng, 12, 60)
            deal = random_deal(rng, chain, 10 ** 50)
            self.assertEqual(class_of(chain, deal), class_of(chain, written(chain, deal)))
        for chain in (PAIR, TRIO, TWELVE):
            for index in range(len(chain) - 1):
                self.assertEqual(
                    class_of(chain, {(index, 0): 5}), class_of(chain, {(index + 1, chain[index + 1][1]): 5})
                )

    def test_the_empty_deal(self):
        self.assertEqual(class_of(TRIO, {}), (0, (0, 2, 1)))
        self.assertEqual(class_of(((60, 7),), {(0, 59): -MOST}), (-MOST, (MOST % 60,)))

    def test_plain_deals_are_in_their_class(self):
        for places in ((a, b) for a in range(3) for b in range(4)):
            for degree in (-7, 0, 1, 2, 9, 10 ** 59, -(10 ** 59)):
                deal = plain_deal(PAIR, degree, places)
                self.assertEqual(class_of(PAIR, deal), (degree, places))
                self.assertEqual(degree_of(PAIR, deal), degree)
                self.assertEqual(list(deal), sorted(deal))
                self.assertEqual(deal, written(PAIR, deal))
        rng = random.Random(3)
        for _ in range(200):
            chain = random_chain(rng, 12, 60)
            places = random_places(rng, chain)
            self.assertEqual(class_of(chain, plain_deal(chain, 5, places)), (5, places))

    def test_plain_deals_are_written(self):
        self.assertEqual(plain_deal(PAIR, 2, (0, 1)), {(0, 0): 2})
        self.assertEqual(plain_deal(PAIR, 1, (0, 0)), {(0, 0): 1})
        self.assertEqual(plain_deal(PAIR, 4, (1, 0)), {(0, 1): 1, (1, 0): 3})

    def test_as_many_classes_as_places(self):
        # Each deal of a small chain meets just one plain deal of its degree.
        chain = ((2, 1), (3, 2))
        size, ties = naive.chain_ties(chain)
        plain = [plain_deal(chain, 1, (a, b)) for a in range(2) for b in range(3)]
        rng = random.Random(5)
        for _ in range(50):
            deal = random_deal(rng, chain, 4)
            deal = added(chain, deal, {(1, 0): 1 - degree_of(chain, deal)})
            chips = naive.chain_chips(chain, deal)
            alike = [
                other for other in plain
                if naive.find_moves(size, ties, chips, naive.chain_chips(chain, other)) is not None
            ]
            self.assertEqual(len(alike), 1)
            self.assertEqual(class_of(chain, deal), class_of(chain, alike[0]))

    def test_too_many_digits(self):
        self.assertEqual(raised(self, TooMany, class_of, PAIR, {(0, 0): MOST, (0, 1): 1}).limit, 60)
        self.assertEqual(class_of(PAIR, {(0, 0): MOST, (0, 1): -1})[0], MOST - 1)
        self.assertEqual(plain_deal(PAIR, MOST, (0, 1)), {(0, 0): 2, (1, 0): MOST - 2})
        self.assertEqual(plain_deal(PAIR, 2 - MOST, (0, 1)), {(0, 0): 2, (1, 0): -MOST})
        self.assertEqual(raised(self, TooMany, plain_deal, PAIR, 1 - MOST, (0, 1)).limit, 60)
        # A chip at the right end makes the long number a shorter one.
        self.assertEqual(plain_deal(PAIR, 1 - MOST, (1, 0)), {(0, 1): 1, (1, 0): -MOST})

    def test_wrong(self):
        check_wrong(self, class_of, (PAIR, {}), ("chain", "deal"))
        check_wrong(self, plain_deal, (PAIR, 2, (2, 3)), ("chain", "integer", "places"))


class TestAlike(unittest.TestCase):
    def test_against_fractions(self):
        rng = random.Random(7)
        seen = {True: 0, False: 0}
        for _ in range(300):
            chain = random_chain(rng, 3, 4)
            size, ties = naive.chain_ties(chain)
            one, other = random_deal(rng, chain, 4), random_deal(rng, chain, 4)
            if rng.random() < 0.8:
                other = added(chain, other, {(0, 0): degree_of(chain, one) - degree_of(chain, other)})
            chips = [naive.chain_chips(chain, deal) for deal in (one, other)]
            wished = naive.find_moves(size, ties, *chips) is not None
            self.assertIs(are_alike(chain, one, other), wished)
            self.assertIs(are_alike(chain, one, one), True)
            seen[wished] += 1
        self.assertTrue(min(seen.values()) > 20)

    def test_longer_degrees_are_told_apart(self):
        big = {(0, 0): MOST, (1, 1): MOST}
        self.assertIs(are_alike(PAIR, big, dict(big)), True)
        self.assertIs(are_alike(PAIR, big, {(0, 0): MOST, (1, 1): MOST - 1}), False)

    def test_one_degree_and_unlike_tuples(self):
        self.assertIs(are_alike(PAIR, {(0, 0): 1}, {(0, 2): 1}), False)
        self.assertIs(are_alike(PAIR, {(0, 1): 3}, {(0, 0): 3}), True)
        self.assertIs(are_alike(PAIR, {(0, 1): 3}, {(0, 0): 2}), False)

    def test_sums_on_one_ring(self):
        rng = random.Random(13)
        for _ in range(200):
            chain = random_chain(rng, 12, 60)
            index = rng.randrange(len(chain))
            many = chain[index][0]
            p, q = rng.randrange(many), rng.randrange(many)
            one = added(chain, {(index, p): 1}, {(index, q): 1})
            other = added(chain, {(index, (p + q) % many): 1}, {(index, 0): 1})
            self.assertIs(are_alike(chain, one, other), True)

    def test_wrong(self):
        check_wrong(self, are_alike, (PAIR, {}, {}), ("chain", "deal", "deal"))


class TestLendings(unittest.TestCase):
    def test_small_ones(self):
        # On a ring of two places a lending gives two chips.
        self.assertEqual(lendings(((2, 1),), {(0, 1): 2}, {(0, 0): 2}), {(0, 1): 1})
        self.assertEqual(lent(((2, 1),), {}, {(0, 1): 1}), {(0, 0): 2, (0, 1): -2})
        self.assertEqual(lent(PAIR, {}, {(0, 0): 1}), {(0, 0): -4, (0, 1): 1, (0, 2): 1, (1, 0): 1, (1, 2): 1})
        self.assertEqual(lent(PAIR, {(0, 0): 4}, {}), {(0, 0): 4})
        self.assertEqual(lendings(PAIR, {(0, 1): 1}, {(0, 1): 1}), {})

    def test_unlike_deals_have_none(self):
        self.assertIsNone(lendings(PAIR, {(0, 0): 1}, {(0, 2): 1}))
        self.assertIsNone(lendings(PAIR, {(0, 0): 1}, {}))
        for value in PILE:
            self.assertIs(is_lendings(PAIR, {(0, 0): 1}, {(0, 2): 1}, value), False)

    def test_there_and_back(self):
        rng = random.Random(17)
        for _ in range(200):
            chain = random_chain(rng, 12, rng.choice((2, 5, 60)))
            deal = random_deal(rng, chain, 10 ** rng.choice((1, 40)))
            moves = random_moves(rng, chain, 10 ** rng.choice((1, 40)))
            before = copy.deepcopy((deal, moves))
            behind = lent(chain, deal, moves)
            self.assertEqual(before, (deal, moves))
            self.assertTrue(are_alike(chain, deal, behind))
            self.assertEqual(lendings(chain, deal, behind), moves)
            self.assertIs(is_lendings(chain, deal, behind, moves), True)
            self.assertEqual(lendings(chain, behind, deal), {name: -moves[name] for name in moves})
            self.assertEqual(list(behind), sorted(behind))
            self.assertEqual(list(lendings(chain, deal, behind)), sorted(moves))
            numbers, size = naive.chain_places(chain)
            row = [0] * size
            for name, many in moves.items():
                row[numbers[name]] = many
            wished = naive.lend(naive.chain_ties(chain)[1], naive.chain_chips(chain, deal), row)
            self.assertEqual(naive.chain_chips(chain, behind), wished)

    def test_plain_deals_are_reached(self):
        rng = random.Random(19)
        for _ in range(100):
            chain = random_chain(rng, 12, 20)
            deal = random_deal(rng, chain, 30)
            plain = plain_deal(chain, *class_of(chain, deal))
            moves = lendings(chain, deal, plain)
            self.assertIs(is_lendings(chain, deal, plain, moves), True)
            self.assertEqual(lent(chain, deal, moves), plain)
            self.assertNotIn(right_end(chain), moves)
            self.assertNotIn(0, moves.values())

    def test_near_values_are_none(self):
        one, other = {(0, 1): 3, (1, 3): 1}, {(0, 0): 3, (1, 3): 1}
        moves = lendings(PAIR, one, other)
        self.assertEqual(moves, {(0, 1): 2, (0, 2): 1})
        check_judge(self, is_lendings, (PAIR, one, other), [moves])
        for value in (
            {(0, 1): 2, (0, 2): 1, (0, 0): 0}, {(0, 1): 2, (0, 2): 1, (1, 0): 0}, {(0, 1): 2, (0, 2): True},
            {(0, 1): 3, (0, 2): 2, (0, 0): 1, (1, 0): 1, (1, 2): 1, (1, 3): 1}, {(0, 1): 1, (0, 2): 2}, {},
            [((0, 1), 2), ((0, 2), 1)], (((0, 1), 2), ((0, 2), 1)), {(0, 1): 2}, {(0, 1): 2, (0, 2): 1, (1, 1): 0},
        ):
            self.assertIs(is_lendings(PAIR, one, other, value), False, value)

    def test_other_names_and_the_right_end_are_no_lendings(self):
        for value in ({(1, 1): 1}, {(1, 0): 1}, {(0, 1): 0}, {(0, 1): True}, {(0, 1): LONG}, {(0, 3): 1}, {0: 1}, None):
            raised(self, InvalidOperation, lent, PAIR, {}, value)
            behind = lent(PAIR, {}, {(0, 0): 1})
            self.assertIs(is_lendings(PAIR, {}, behind, value), False)
        self.assertIs(is_lendings(PAIR, {}, lent(PAIR, {}, {(0, 0): 1}), {(0, 0): 1}), True)

    def test_too_many_digits(self):
        self.assertEqual(raised(self, TooMany, lent, PAIR, {}, {(0, 0): MOST}).limit, 60)
        self.assertEqual(raised(self, TooMany, lent, PAIR, {(1, 1): MOST}, {(0, 2): 1}).limit, 60)
        self.assertEqual(lent(PAIR, {(0, 0): 4 * (MOST // 4)}, {(0, 0): MOST // 4})[(0, 1)], MOST // 4)
        chain = ((60, 30),)
        one, other = {(0, 30): MOST - 9}, {(0, 0): MOST - 9}
        self.assertTrue(are_alike(chain, one, other) is ((MOST - 9) % 2 == 0))
        self.assertEqual(raised(self, TooMany, lendings, chain, one, other).limit, 60)
        few = 10 ** 58
        self.assertEqual(max(lendings(chain, {(0, 30): few}, {(0, 0): few}).values()), 15 * few)
        self.assertIs(is_lendings(chain, one, other, {}), False)

    def test_longer_deals(self):
        one = {(0, 0): MOST, (1, 1): MOST, (0, 1): 3}
        other = {(0, 0): MOST, (1, 1): MOST - 1, (0, 2): 4, (0, 1): 0}
        self.assertEqual(lendings(PAIR, one, one), {})
        told = lendings(PAIR, one, other)
        self.assertEqual(told is None, not are_alike(PAIR, one, other))
        self.assertEqual(raised(self, TooMany, lent, PAIR, one, {}).limit, 60)

    def test_wrong(self):
        check_wrong(self, lendings, (PAIR, {}, {}), ("chain", "deal", "deal"))
        check_wrong(self, is_lendings, (PAIR, {}, {}, None), ("chain", "deal", "deal", None))
        check_wrong(self, lent, (PAIR, {}, {}), ("chain", "deal", None))
        raised(self, InvalidDeal, lent, PAIR, {(0, 0): True}, None)
        for value in PILE:
            if not (isinstance(value, dict) and is_lendings(PAIR, {}, lent_or_empty(value), value)):
                raised(self, InvalidOperation, lent, PAIR, {}, value)


def lent_or_empty(value):
    try:
        return lent(PAIR, {}, value)
    except InvalidOperation:
        return {}


class TestClassSums(unittest.TestCase):
    def test_against_deals(self):
        rng = random.Random(23)
        for _ in range(200):
            chain = random_chain(rng, 12, 60)
            one, other = random_deal(rng, chain, 10 ** 20), random_deal(rng, chain, 10 ** 20)
            a, b = rng.randint(-50, 50), rng.randint(-(10 ** 30), 10 ** 30)
            first, second = class_of(chain, one), class_of(chain, other)
            self.assertEqual(class_sum(chain, first, second), class_of(chain, added(chain, one, other)))
            self.assertEqual(class_less(chain, first, second), class_of(chain, less(chain, one, other)))
            ended = added(chain, one, at_ends(chain, a, b))
            self.assertEqual(class_with_ends(chain, first, a, b), class_of(chain, ended))
            self.assertEqual(
                class_sum(chain, first, second)[1],
                tuple((x + y + j * s) % n for j, (x, y, (n, s)) in enumerate(zip(first[1], second[1], chain))),
            )

    def test_the_sum_of_tuples_is_another_tuple(self):
        self.assertEqual(class_sum(PAIR, (0, (0, 0)), (0, (0, 0))), (0, (0, 1)))
        self.assertEqual(class_less(PAIR, (2, (0, 0)), (3, (1, 0))), (-1, (2, 3)))
        self.assertEqual(class_with_ends(TRIO, (1, (0, 0, 0)), 1, 2), (4, (1, 2, 3)))
        self.assertEqual(left_end(EVEN), (0, 1))

    def test_too_many_digits(self):
        top, low = (MOST, (0, 0)), (-MOST, (0, 0))
        self.assertEqual(class_sum(PAIR, (MOST - 1, (0, 0)), (1, (0, 0)))[0], MOST)
        for call, arguments in (
            (class_sum, (top, (1, (0, 0)))), (class_less, (low, (1, (0, 0)))), (class_less, (top, low)),
            (class_with_ends, (top, 1, 0)), (class_with_ends, (low, 0, -1)), (class_with_ends, (top, MOST, MOST)),
        ):
            self.assertEqual(raised(self, TooMany, call, PAIR, *arguments).limit, 60)
        self.assertEqual(class_with_ends(PAIR, top, -MOST, MOST)[0], MOST)

    def test_wrong(self):
        check_wrong(self, class_sum, (PAIR, (1, (0, 0)), (0, (2, 3))), ("chain", "class", "class"))
        check_wrong(self, class_less, (PAIR, (1, (0, 0)), (0, (2, 3))), ("chain", "class", "class"))
        check_wrong(
            self, class_with_ends, (PAIR, (1, (0, 0)), 0, 3), ("chain", "class", "integer", "integer")
        )


if __name__ == "__main__":
    unittest.main()
