import itertools
import random
import unittest

from ringstairs.errors import InvalidMap, InvalidNumber, InvalidWord, TooMany
from ringstairs.turns import greedy as module
from ringstairs.turns.greedy import (
    does_nothing, greedily_made, greedy, is_below, is_more_at, is_split, is_word_of, least_factor, made_of, more_at,
    word_of,
)
from ringstairs.turns.rounds import Round, letter, plain_shift, widened
from tests.common import LONG, MOST, NO_INTEGERS, NO_MAPS, PILE, TURN, check_judge, check_wrong, raised
from tests.samples import random_letters, random_map, wild_map

A, B, C = letter(3, 0), letter(3, 1), letter(3, 2)


def reach_of(p):
    return max(abs(p(i) - i - p.shift) for i in range(len(p)))


def sums(p, q):
    """All a + b at which the counts of two maps, or of their products, are not told by the shift alone."""
    far = reach_of(p) + reach_of(q) + 3
    low, high = sorted((-p.shift, -q.shift, 0))[0], sorted((-p.shift, -q.shift, 0))[2]
    return range(low - far, high + far + 1)


def slow_below(p, q):
    return all(p.counted(a, s - a) <= q.counted(a, s - a) for a in range(len(p)) for s in sums(p, q))


def by_letters(p, q):
    """The greedy product by [8.2], letter by letter."""
    t, letters = word_of(q)
    product = p * plain_shift(len(p), t)
    for c in letters:
        if product(c) < product(c + 1):
            product = product * letter(len(p), c)
    return product


def all_maps(m, shift, most):
    """All maps of the round and shift with at most so many falls, each with its falls, found letter by letter."""
    found = {plain_shift(m, shift).told_values: 0}
    edge = [plain_shift(m, shift)]
    for many in range(1, most + 1):
        behind = []
        for p in edge:
            for c in range(m) if m > 1 else ():
                more = p * letter(m, c)
                if more.told_values not in found:
                    found[more.told_values] = many
                    behind.append(more)
        edge = behind
    return found


class TestGreedy(unittest.TestCase):
    def test_example(self):
        self.assertEqual((module.MAX_FALLS, module.MAX_WORD), (1000, 2000))
        self.assertEqual(
            [
                greedy(A, A) == A, greedy(greedy(A, B), A).told_values, made_of(3, (0, (0, 1, 0, 1))).falls,
                greedily_made(3, (1, (0, 1, 0, 1))).told_values,
            ],
            [True, (2, 1, 0), 2, (3, 2, 1)],
        )

    def test_by_least_sums(self):
        rng = random.Random(1)
        for _ in range(60):
            m = rng.randint(1, 5)
            p, q = random_map(rng, m, 5, 2), random_map(rng, m, 5, 2)
            told = greedy(p, q)
            spread = reach_of(p) + reach_of(q) + 6
            for a in range(m):
                for s in range(-told.shift - spread, spread - told.shift):
                    b = s - a
                    middle = -a - q.shift
                    least = min(
                        q.counted(a, l) + p.counted(-l - 1, b) for l in range(middle - 2 * spread, middle + 2 * spread)
                    )
                    self.assertEqual(told.counted(a, b), least)

    def test_letter_by_letter(self):
        rng = random.Random(2)
        for _ in range(150):
            m = rng.randint(1, 9)
            p, q, r = (random_map(rng, m, 15, 3) for _ in range(3))
            told = greedy(p, q)
            self.assertEqual(told, by_letters(p, q))
            self.assertEqual(told.shift, p.shift + q.shift)
            self.assertTrue(max(p.falls, q.falls) <= told.falls <= p.falls + q.falls)
            self.assertEqual(greedy(told, r), greedy(p, greedy(q, r)))
            self.assertIs(is_below(p * q, told), True)
            self.assertIs(is_split(p, q), told == p * q)
            self.assertIs(is_split(p, q), told.falls == p.falls + q.falls)
            shift = plain_shift(m, rng.randint(-5, 5))
            self.assertEqual(greedy(p, shift), p * shift)
            self.assertEqual(greedy(shift, p), shift * p)
            for c in range(m) if m > 1 else ():
                rises = p(c) < p(c + 1)
                self.assertEqual(greedy(p, letter(m, c)), p * letter(m, c) if rises else p)
                self.assertIs(does_nothing(p, c), not rises)

    def test_greater_factors_make_greater_products(self):
        rng = random.Random(3)
        seen = 0
        for _ in range(300):
            m = rng.randint(2, 4)
            p, q, more, other = (random_map(rng, m, 4, 1) for _ in range(4))
            if is_below(p, more) and is_below(q, other):
                seen += 1
                self.assertIs(is_below(greedy(p, q), greedy(more, other)), True)
        self.assertGreater(seen, 10)

    def test_greatest_of_all_products(self):
        rng = random.Random(4)
        for m, most in ((2, 3), (3, 3), (3, 2), (4, 2)):
            p = made_of(m, (1, random_letters(rng, m, most)))
            q = made_of(m, (-1, random_letters(rng, m, most)))
            lower = [Round(values) for values in all_maps(m, 1, p.falls) if is_below(Round(values), p)]
            under = [Round(values) for values in all_maps(m, -1, q.falls) if is_below(Round(values), q)]
            products = [x * y for x in lower for y in under]
            told = greedy(p, q)
            self.assertTrue(any(product == told for product in products))
            self.assertTrue(all(is_below(product, told) for product in products))

    def test_many_falls(self):
        p = greedily_made(2, (0, (0, 1) * 500))
        self.assertEqual(p.falls, 1000)
        self.assertEqual(greedy(p, plain_shift(2, 5)), p * plain_shift(2, 5))
        self.assertIs(does_nothing(p, 1), True)
        self.assertIs(does_nothing(p, 0), False)
        self.assertEqual(raised(self, TooMany, greedy, p, letter(2, 0)).limit, 1000)
        self.assertEqual(greedy(p, letter(2, 1)), p)
        self.assertIs(is_split(p, letter(2, 0)), True)
        self.assertIs(is_split(p, letter(2, 1)), False)
        self.assertIs(is_split(p, p), True)
        self.assertIs(is_split(~p, p), False)
        self.assertIs(is_below(p, p), True)
        self.assertEqual(word_of(p), (0, (0, 1) * 500))
        self.assertIs(is_word_of(p, (0, (0, 1) * 500)), True)
        self.assertEqual(least_factor(p, p), plain_shift(2, 0))
        over = made_of(2, (0, (0, 1) * 500 + (0,)))
        self.assertEqual(over.falls, 1001)
        for call in (greedy, is_below, more_at, is_split, least_factor):
            for pair in ((over, p), (p, over), (over, over)):
                self.assertEqual(raised(self, TooMany, call, *pair).limit, 1000)
            raised(self, InvalidMap, call, over, TURN)
            raised(self, InvalidMap, call, TURN, over)
            raised(self, InvalidMap, call, over, None)
        self.assertEqual(raised(self, TooMany, is_more_at, over, p, (0, 0)).limit, 1000)
        self.assertEqual(raised(self, TooMany, is_more_at, p, over, None).limit, 1000)
        self.assertEqual(raised(self, TooMany, word_of, over).limit, 1000)
        self.assertEqual(raised(self, TooMany, is_word_of, over, None).limit, 1000)
        self.assertEqual(raised(self, TooMany, does_nothing, over, 1).limit, 1000)
        for value in NO_INTEGERS + (-1, 2):
            self.assertIs(raised(self, InvalidNumber, does_nothing, over, value).given, value)

    def test_long_values(self):
        great, one = plain_shift(3, MOST - 2), letter(3, 0)
        self.assertEqual(great.told_values[2], MOST)
        self.assertEqual(greedy(great, one).told_values, (MOST - 1, MOST - 2, MOST))
        self.assertEqual(raised(self, TooMany, greedy, great, letter(3, 2)).limit, 60)
        self.assertEqual(raised(self, TooMany, greedy, great, plain_shift(3, 1)).limit, 60)
        self.assertEqual(raised(self, TooMany, greedy, plain_shift(3, -MOST), plain_shift(3, -1)).limit, 60)
        self.assertEqual(greedy(great, plain_shift(3, -MOST)).shift, -2)
        # Too many digits come ahead of too many falls.
        steep = made_of(2, (MOST - 5000, (0, 1) * 500))
        more = made_of(2, (5001, (0, 1) * 500))
        self.assertEqual(raised(self, TooMany, greedy, steep, more).limit, 60)
        self.assertEqual(raised(self, TooMany, greedy, made_of(2, (0, (0, 1) * 500)), more).limit, 1000)

    def test_wrong(self):
        for call in (greedy, is_below, more_at, is_split, least_factor):
            check_wrong(self, call, (TURN, A), ("map", "like map"))
        check_wrong(self, is_more_at, (TURN, A, None), ("map", "like map", None))
        check_wrong(self, does_nothing, (TURN, 0), ("map", "third"))
        check_wrong(self, word_of, (TURN,), ("map",))
        check_wrong(self, is_word_of, (TURN, None), ("map", None))
        for value in NO_INTEGERS + (0, 1, -1):
            self.assertIs(raised(self, InvalidNumber, does_nothing, Round((5,)), value).given, value)
        raised(self, InvalidMap, greedy, A, widened(A, 6))
        self.assertEqual((TURN.told_values, A.told_values), ((3, 1, 2), (1, 0, 2)))


class TestBelow(unittest.TestCase):
    def test_against_slow_counts(self):
        rng = random.Random(5)
        seen = {True: 0, False: 0}
        for _ in range(400):
            m = rng.randint(1, 5)
            p = random_map(rng, m, rng.randint(0, 9), 1)
            q = random_map(rng, m, rng.randint(0, 9), 1)
            if rng.random() < 0.3:
                q = greedy(q, p)
            wished = slow_below(p, q)
            seen[wished] += 1
            self.assertIs(is_below(p, q), wished)
            spot = more_at(p, q)
            self.assertIs(spot is None, wished)
            if spot is not None:
                self.assertIs(is_more_at(p, q, spot), True)
                self.assertGreater(p.counted(*spot), q.counted(*spot))
        self.assertTrue(min(seen.values()) > 80)

    def test_wild_ones(self):
        rng = random.Random(6)
        for _ in range(60):
            p, q = wild_map(rng, 6, 3), wild_map(rng, 6, 3)
            self.assertIs(is_below(p, q), slow_below(p, q))
            spot = more_at(p, q)
            self.assertEqual(spot is None or is_more_at(p, q, spot), True)

    def test_neither(self):
        self.assertIs(is_below(A, B), False)
        self.assertIs(is_below(B, A), False)
        self.assertEqual((A.shift, B.shift), (0, 0))
        self.assertIs(is_below(A, A * B), True)
        self.assertIs(is_below(A * B, A), False)
        self.assertIs(is_below(plain_shift(4, 3), plain_shift(4, 4)), True)
        self.assertIs(is_below(plain_shift(4, 4), plain_shift(4, 3)), False)

    def test_subwords_are_below(self):
        rng = random.Random(7)
        for _ in range(80):
            m = rng.randint(2, 5)
            letters = random_letters(rng, m, 8)
            whole = greedily_made(m, (2, letters))
            part = tuple(c for c in letters if rng.random() < 0.6)
            self.assertIs(is_below(greedily_made(m, (2, part)), whole), True)
            self.assertIs(is_below(made_of(m, (2, part)), whole), True)

    def test_each_pair_is_judged(self):
        rng = random.Random(8)
        for _ in range(20):
            m = rng.randint(1, 4)
            p, q = random_map(rng, m, 4, 1), random_map(rng, m, 4, 1)
            right = []
            for a in range(-8, 9):
                for b in range(-8, 9):
                    told = is_more_at(p, q, (a, b))
                    self.assertIs(told, p.counted(a, b) > q.counted(a, b))
                    right += [(a, b)] if told else []
            check_judge(self, is_more_at, (p, q), right + self.in_pile(p, q))
            for value in ([0, 0], (0,), (0, 0, 0), (True, 0), (0, None), (LONG, 0), (0, -LONG)):
                self.assertIs(is_more_at(p, q, value), False)

    def in_pile(self, p, q):
        return [
            value for value in PILE
            if type(value) is tuple and len(value) == 2 and all(type(x) is int and abs(x) < LONG for x in value)
            and p.counted(*value) > q.counted(*value)
        ]

    def test_far_shifts(self):
        for one, other in ((MOST, MOST - 1), (-MOST + 1, -MOST), (MOST, -MOST), (10 ** 59, 3), (-3, -10 ** 59)):
            p, q = plain_shift(1, one), plain_shift(1, other)
            self.assertIs(is_more_at(p, q, more_at(p, q)), True)
            self.assertIsNone(more_at(q, p))
        p = made_of(60, (MOST - 2000, tuple(c % 60 for c in range(900))))
        q = made_of(60, (MOST - 2000, tuple(-c % 60 for c in range(900))))
        for one, other in ((p, q), (q, p)):
            spot = more_at(one, other)
            self.assertTrue(all(abs(x) < LONG for x in spot))
            self.assertIs(is_more_at(one, other, spot), True)
        low = made_of(60, (2000 - MOST, tuple(c % 60 for c in range(900))))
        self.assertIs(is_below(low, p), True)
        self.assertIs(is_more_at(p, low, more_at(p, low)), True)
        self.assertIs(is_more_at(p, low, (MOST, MOST)), True)
        self.assertIs(is_more_at(p, low, (-MOST, 0)), False)


class TestWords(unittest.TestCase):
    def test_words_of_all_small_maps(self):
        for m, most in ((2, 7), (3, 5), (4, 4)):
            for values, many in all_maps(m, 1, most).items():
                p = Round(values)
                self.assertEqual(p.falls, many)
                word = word_of(p)
                self.assertEqual((word[0], len(word[1])), (1, many))
                self.assertEqual((made_of(m, word), greedily_made(m, word)), (p, p))
                self.assertIs(is_word_of(p, word), True)

    def test_every_word_is_judged(self):
        for m, letters in ((2, (0, 1, 0)), (3, (0, 1, 0)), (3, (2, 0, 2, 1)), (4, (0, 2, 1, 3)), (4, (1, 1)), (3, ())):
            p = made_of(m, (-2, letters))
            for many in range(5):
                for value in itertools.product(range(m), repeat=many):
                    wished = many == p.falls and made_of(m, (-2, value)) == p
                    self.assertIs(is_word_of(p, (-2, value)), wished)
                    self.assertIs(is_word_of(p, (-1, value)), False)
        self.assertIs(is_word_of(greedy(greedy(A, B), A), (0, (0, 1, 0))), True)
        self.assertIs(is_word_of(greedy(greedy(A, B), A), (0, (1, 0, 1))), True)

    def test_words_turned_at_one_place(self):
        rng = random.Random(9)
        for _ in range(60):
            m = rng.randint(3, 9)
            p = random_map(rng, m, 12, 3)
            t, letters = word_of(p)
            check_judge(self, is_word_of, (p,), [(t, letters)])
            self.assertIs(is_word_of(p, (t + 1, letters)), False)
            self.assertIs(is_word_of(p, (t, letters + (0, 0))), False)
            for at, c in enumerate(letters):
                for other in range(-1, m + 1):
                    turned = (t, letters[:at] + (other,) + letters[at + 1:])
                    self.assertIs(is_word_of(p, turned), turned == (t, letters))
                self.assertIs(is_word_of(p, (t, letters[:at] + letters[at + 1:])), False)
            for value in ([t, letters], (t, list(letters)), (t,), (t, letters, 0), {t: letters}):
                self.assertIs(is_word_of(p, value), False)
        self.assertIs(is_word_of(B, (0, (True,))), False)
        self.assertIs(is_word_of(plain_shift(3, 1), (True, ())), False)

    def test_round_of_one(self):
        self.assertEqual(word_of(Round((5,))), (5, ()))
        self.assertEqual(made_of(1, (-3, ())), Round((-3,)))
        self.assertEqual(greedily_made(1, (MOST, ())), Round((MOST,)))
        self.assertIs(is_word_of(Round((5,)), (5, ())), True)
        for call in (made_of, greedily_made):
            for word in ((0, (0,)), (0, (1,)), (0, (-1,)), (0, (0, 0))):
                raised(self, InvalidWord, call, 1, word)
        self.assertIs(is_word_of(Round((5,)), (5, (0,))), False)
        self.assertEqual(greedy(Round((5,)), Round((-9,))), Round((-4,)))
        self.assertEqual(least_factor(Round((5,)), Round((-9,))), Round((14,)))

    def test_products_of_words(self):
        rng = random.Random(10)
        for _ in range(100):
            m = rng.choice((2, 3, 5, 60))
            t, letters = rng.randint(-9, 9), random_letters(rng, m, rng.randint(0, 20))
            plain = made = plain_shift(m, t)
            idle = []
            for at, c in enumerate(letters):
                idle += [at] if does_nothing(made, c) else []
                plain = plain * letter(m, c)
                made = greedy(made, letter(m, c))
            self.assertEqual((made_of(m, (t, letters)), greedily_made(m, (t, letters))), (plain, made))
            self.assertTrue(plain.falls <= made.falls == len(letters) - len(idle))
            self.assertIs(plain.falls == len(letters), plain == made and not idle)
            left = tuple(c for at, c in enumerate(letters) if at not in idle)
            self.assertEqual(greedily_made(m, (t, left)), made)

    def test_long_words(self):
        rng = random.Random(11)
        letters = random_letters(rng, 60, 2000)
        self.assertEqual(made_of(60, (0, letters)).shift, 0)
        self.assertEqual(greedily_made(60, (0, (0, 1) * 1000)).falls, 3)
        self.assertEqual(made_of(2, (0, (0, 1) * 1000)).falls, 2000)
        self.assertEqual(raised(self, TooMany, greedily_made, 2, (0, (0, 1) * 1000)).limit, 1000)
        self.assertEqual(greedily_made(2, (0, (0, 1) * 500)).falls, 1000)
        self.assertEqual(raised(self, TooMany, greedily_made, 2, (0, (0, 1) * 500 + (0,))).limit, 1000)
        self.assertEqual(raised(self, TooMany, greedily_made, 2, (MOST - 5, (0, 1) * 500 + (0,))).limit, 60)
        for call in (made_of, greedily_made):
            raised(self, InvalidWord, call, 60, (0, letters + (0,)))
            self.assertEqual(raised(self, TooMany, call, 2, (MOST, ())).limit, 60)
            self.assertEqual(raised(self, TooMany, call, 3, (MOST - 2, (2,))).limit, 60)
            self.assertEqual(call(3, (MOST - 2, (0,))).told_values, (MOST - 1, MOST - 2, MOST))

    def test_wrong(self):
        for call in (made_of, greedily_made):
            check_wrong(self, call, (3, (0, (0, 1))), ("round", "word"))


class TestLeastFactor(unittest.TestCase):
    def test_least_of_all(self):
        rng = random.Random(12)
        unlike = 0
        for m, most, tries in ((1, 0, 3), (2, 4, 10), (3, 4, 12), (4, 3, 8)):
            for _ in range(tries):
                whole, q = random_map(rng, m, most, 1), random_map(rng, m, most, 1)
                told = least_factor(whole, q)
                self.assertIs(is_below(whole, greedy(told, q)), True)
                self.assertEqual(told.shift, whole.shift - q.shift)
                unlike += greedy(told, q) != whole
                for shift in (told.shift - 1, told.shift, told.shift + 1):
                    for values in all_maps(m, shift, most):
                        f = Round(values)
                        self.assertIs(is_below(whole, greedy(f, q)), is_below(told, f))
        self.assertGreater(unlike, 3)

    def test_by_letters(self):
        rng = random.Random(13)
        for _ in range(100):
            m = rng.choice((2, 3, 7, 60))
            whole, q = random_map(rng, m, 30, 3), random_map(rng, m, 30, 3)
            wished = whole
            for c in reversed(word_of(q)[1]):
                if (wished * letter(m, c)).falls < wished.falls:
                    wished = wished * letter(m, c)
            wished = wished * plain_shift(m, -q.shift)
            self.assertEqual(least_factor(whole, q), wished)
            p = random_map(rng, m, 30, 3)
            self.assertIs(is_below(least_factor(greedy(p, q), q), p), True)

    def test_long_values(self):
        great, low = plain_shift(3, MOST - 2), plain_shift(3, -1)
        self.assertEqual(raised(self, TooMany, least_factor, great, low).limit, 60)
        self.assertEqual(least_factor(low, great).shift, 1 - MOST)
        self.assertEqual(least_factor(great, great), plain_shift(3, 0))

    def test_not_true(self):
        self.assertNotEqual(greedy(A, B), greedy(B, A))
        self.assertEqual(greedy(A, A), greedy(plain_shift(3, 0), A))
        self.assertNotEqual(greedy(least_factor(B, A), A), B)

    def test_nothing_changes(self):
        p, q = Round((3, 1, 2)), Round((0, 4, 2))
        for call in (greedy, is_below, more_at, is_split, least_factor):
            self.assertEqual(call(p, q), call(p, q))
        self.assertEqual(word_of(p), word_of(p))
        self.assertEqual((p.told_values, q.told_values, p.falls, q.falls), ((3, 1, 2), (0, 4, 2), 2, 2))
        for value in NO_MAPS:
            raised(self, InvalidMap, least_factor, p, value)


if __name__ == "__main__":
    unittest.main()
