import itertools
import random
import unittest

from ringstairs.errors import InvalidMap, InvalidNumber, TooMany
from ringstairs.turns import rounds
from ringstairs.turns.greedy import made_of
from ringstairs.turns.rounds import Round, is_round, letter, plain_shift, widened
from tests.common import (
    KINDS, LONG, MOST, NO_INTEGERS, NO_MAPS, NO_ROUND_VALUES, ODD_PIECE, PILE, RING_PIECE, TURN, check_judge,
    check_wrong, raised,
)
from tests.samples import random_map, wild_map


def reach_of(p):
    return max(abs(p(i) - i - p.shift) for i in range(len(p)))


def slow_falls(p):
    """The falls by the words of [7.1]: pairs that far apart rise."""
    far = 2 * reach_of(p) + 1
    return sum(p(i) > p(j) for i in range(len(p)) for j in range(i + 1, i + far + 1))


def slow_count(p, a, b):
    """The places up to a with values of at least -b, one by one."""
    low = -b - p.shift - reach_of(p)
    return sum(p(i) >= -b for i in range(min(low, a) - 1, a + 1))


class TestValues(unittest.TestCase):
    def test_example(self):
        self.assertEqual(rounds.MAX_ROUND, 60)
        p = Round((3, 1, 2))
        self.assertEqual(
            [
                p(4), p.shift, p.falls, (~p).told_values, (p * p)(0), p.counted(0, 2), p.second(0, -3),
                str(letter(3, 2)), letter(3, 2).told_values,
            ],
            [4, 1, 2, (-3, 1, 2), 6, 4, 1, "round of 3, shift 0, 1 falls", (-1, 1, 3)],
        )

    def test_is_round(self):
        right = [(0,), (-MOST,), (MOST,), (5, -2), tuple(range(60)), (1, 0), (MOST, 0), (3, 1, 2), (-3, 1, 2)]
        check_judge(self, is_round, (), right + [value for value in PILE if self.slow_is_round(value)])
        for value in NO_ROUND_VALUES:
            self.assertIs(is_round(value), False)

    def slow_is_round(self, value):
        return (
            type(value) is tuple and 1 <= len(value) <= 60
            and all(type(x) is int and abs(x) < LONG for x in value)
            and len({x % len(value) for x in value}) == len(value)
        )

    def test_all_small_values(self):
        for values in itertools.product(range(-2, 4), repeat=3):
            right = sorted(x % 3 for x in values) == [0, 1, 2]
            self.assertIs(is_round(values), right)
            if right:
                self.assertEqual(Round(values).told_values, values)
            else:
                raised(self, InvalidMap, Round, values)

    def test_periodic_and_one_to_one(self):
        rng = random.Random(1)
        for m in list(range(1, 12)) + [59, 60]:
            p = wild_map(rng, m, 3)
            for i in range(-2 * m, 2 * m):
                self.assertEqual(p(i + m), p(i) + m)
                self.assertEqual((~p)(p(i)), i)
                self.assertEqual(p((~p)(i)), i)
            self.assertEqual(tuple(p(i) for i in range(m)), p.told_values)
            self.assertEqual(p.shift * m, sum(p.told_values) - sum(range(m)))
            self.assertEqual(len(p), m)

    def test_falls(self):
        rng = random.Random(2)
        for _ in range(150):
            p = wild_map(rng, rng.randint(1, 7), rng.randint(0, 4))
            self.assertEqual(p.falls, slow_falls(p))
            self.assertEqual((~p).falls, p.falls)
            self.assertEqual(p.falls == 0, p == plain_shift(len(p), p.shift))
            if len(p) > 1:
                for c in range(len(p)):
                    step = 1 if p(c) < p(c + 1) else -1
                    self.assertEqual((p * letter(len(p), c)).falls, p.falls + step)

    def test_great_values(self):
        p = Round((MOST, 0))
        self.assertEqual((p.shift, p.falls, p(1), p(MOST)), ((MOST - 1) // 2, (MOST + 1) // 2, 0, MOST - 1))
        self.assertEqual(p(MOST - 1), 2 * MOST - 1)
        self.assertEqual(Round((-MOST,)).shift, -MOST)
        self.assertEqual(Round((MOST,))(MOST), 2 * MOST)
        self.assertEqual(str(Round((-MOST,))), f"round of 1, shift -{MOST}, 0 falls")
        self.assertEqual(p.counted(MOST, MOST), (MOST - 1) // 2 + 2 * MOST + 1)

    def test_properties_stay(self):
        p = Round((3, 1, 2))
        for name in ("told_values", "shift", "falls"):
            with self.assertRaises(AttributeError):
                setattr(p, name, 0)
        self.assertEqual((p.told_values, p.shift, p.falls, p.falls), ((3, 1, 2), 1, 2, 2))
        for call in (iter, list, tuple, sorted):
            self.assertRaises(TypeError, call, p)

    def test_text(self):
        self.assertEqual(str(plain_shift(1, -4)), "round of 1, shift -4, 0 falls")
        self.assertEqual(str(Round((3, 1, 2))), "round of 3, shift 1, 2 falls")
        self.assertEqual(str(Round(tuple(range(59, -1, -1)))), "round of 60, shift 0, 1770 falls")

    def test_wrong(self):
        check_wrong(self, Round, ((0, 1),), ("round values",))
        p = Round((3, 1, 2))
        check_wrong(self, p, (0,), ("integer",))
        check_wrong(self, p.counted, (0, 0), ("integer", "integer"))
        check_wrong(self, p.second, (0, 0), ("integer", "integer"))
        self.assertEqual((p.told_values, p.falls), ((3, 1, 2), 2))


class TestProducts(unittest.TestCase):
    def test_products(self):
        rng = random.Random(3)
        for m in list(range(1, 10)) + [60]:
            p, q, r = (wild_map(rng, m, 5) for _ in range(3))
            for i in range(-m, 2 * m):
                self.assertEqual((p * q)(i), p(q(i)))
            self.assertEqual((p * q) * r, p * (q * r))
            self.assertEqual((p * q).shift, p.shift + q.shift)
            self.assertEqual((~p).shift, -p.shift)
            self.assertEqual(~(p * q * r), ~r * ~q * ~p)
            self.assertEqual(p * ~p, plain_shift(m, 0))
            self.assertTrue((p * q).falls <= p.falls + q.falls)
            self.assertEqual(~~p, p)
        self.assertNotEqual(letter(3, 0) * letter(3, 1), letter(3, 1) * letter(3, 0))
        self.assertEqual((letter(3, 0) * letter(3, 0)).falls, 0)

    def test_unlike_rounds(self):
        p = Round((3, 1, 2))
        for q in (Round((0,)), Round((1, 0)), widened(p, 6)):
            raised(self, InvalidMap, lambda: p * q)
            raised(self, InvalidMap, lambda: q * p)

    def test_other_operands(self):
        for other in NO_MAPS + PILE:
            if isinstance(other, Round):
                continue
            for call in (lambda: TURN * other, lambda: other * TURN):
                self.assertRaises(TypeError, call)
        for call in (
            lambda: TURN + TURN, lambda: -TURN, lambda: TURN < TURN, lambda: TURN[0], lambda: TURN ** 2,
            lambda: 1 in TURN, lambda: ~RING_PIECE,
        ):
            self.assertRaises(TypeError, call)

    def test_too_long(self):
        great = Round((MOST,))
        self.assertEqual((great * Round((-1,))).told_values, (MOST - 1,))
        self.assertEqual((~great).told_values, (-MOST,))
        self.assertEqual(raised(self, TooMany, lambda: great * Round((1,))).limit, 60)
        self.assertEqual(raised(self, TooMany, lambda: great * great).limit, 60)
        low = Round((0, -MOST))
        self.assertEqual((-MOST) % 2, 1)
        self.assertEqual(raised(self, TooMany, lambda: ~low).limit, 60)
        self.assertEqual((~Round((0, 2 - MOST))).told_values, (0, MOST))

    def test_equal(self):
        rng = random.Random(4)
        p = Round((3, 1, 2))
        self.assertEqual(p, Round((3, 1, 2)))
        self.assertIs(p != Round((3, 1, 2)), False)
        self.assertIs(p == Round((3, 2, 1)), False)
        self.assertIs(p != Round((3, 2, 1)), True)
        self.assertEqual(plain_shift(4, 7), plain_shift(6, 7))
        self.assertEqual(plain_shift(59, 7), plain_shift(60, 7))
        self.assertNotEqual(plain_shift(59, 7), plain_shift(60, 8))
        self.assertNotEqual(letter(4, 1), letter(2, 1))
        self.assertEqual(letter(4, 1) * letter(4, 3), letter(2, 1))
        self.assertNotEqual(letter(4, 1), letter(6, 1))
        for other in NO_MAPS + PILE + (ODD_PIECE,):
            if other is not TURN:
                self.assertIs(TURN == other, False)
                self.assertIs(TURN != other, True)
        self.assertIn(TURN, [None, 3, Round((3, 1, 2))])
        for _ in range(50):
            one = random_map(rng, rng.randint(1, 4), 2, 1)
            other = random_map(rng, rng.randint(1, 4), 2, 1)
            self.assertIs(one == other, all(one(i) == other(i) for i in range(12)))


class TestCounts(unittest.TestCase):
    def test_against_slow_counts(self):
        rng = random.Random(5)
        for _ in range(60):
            p = wild_map(rng, rng.randint(1, 6), rng.randint(0, 2))
            m, shift, reach = len(p), p.shift, reach_of(p)
            for a in range(-m, m):
                for s in range(-shift - reach - 5, reach - shift + 5):
                    b = s - a
                    told = p.counted(a, b)
                    self.assertEqual(told, slow_count(p, a, b))
                    steps = told - p.counted(a - 1, b) - p.counted(a, b - 1) + p.counted(a - 1, b - 1)
                    self.assertEqual(p.second(a, b), steps)
                    self.assertEqual(steps, 1 if p(a) == -b else 0)
                    self.assertIn(told - p.counted(a - 1, b), (0, 1))
                    self.assertIn(told - p.counted(a, b - 1), (0, 1))
                    self.assertEqual(p.counted(a + m, b - m), told)
                    self.assertEqual((~p).counted(a, b), p.counted(-b - 1, -a - 1) + a + b + 1 - shift)
                    if s < -1 - shift - reach:
                        self.assertEqual(told, 0)
                    if s >= reach - 1 - shift:
                        self.assertEqual(told, a + b + 1 + shift)

    def test_whole_rounds_of_sixty(self):
        p = wild_map(random.Random(6), 60, 1)
        for a in range(60):
            column = [p.counted(a, b) for b in range(-200, 200)]
            self.assertEqual(sum(p.second(a, b) for b in range(-200, 200)), 1)
            self.assertEqual((column[0], column[-1]), (0, a + 200 + p.shift))

    def test_far_off(self):
        p = Round((3, 1, 2))
        self.assertEqual(p.counted(MOST, MOST), 2 * MOST + 2)
        self.assertEqual(p.counted(-MOST, -MOST), 0)
        self.assertEqual(p.counted(MOST, -MOST), 2)
        self.assertEqual(p.second(MOST - 3, -MOST), 1)
        self.assertEqual([p.second(MOST, 1 - MOST), p.second(-MOST, MOST)], [0, 0])


class TestMade(unittest.TestCase):
    def test_plain_shift(self):
        for m in range(1, 61):
            for t in (-70, -1, 0, 1, 59, 10 ** 40):
                p = plain_shift(m, t)
                self.assertEqual((p(5), p(-9), p.shift, p.falls, len(p)), (5 + t, t - 9, t, 0, m))
        self.assertEqual(plain_shift(1, MOST).told_values, (MOST,))
        self.assertEqual(plain_shift(60, MOST - 59)(59), MOST)
        for m in (2, 60):
            self.assertEqual(raised(self, TooMany, plain_shift, m, MOST).limit, 60)
        self.assertEqual(plain_shift(60, -MOST)(0), -MOST)
        check_wrong(self, plain_shift, (3, 1), ("round", "integer"))

    def test_letter(self):
        for m in range(2, 61):
            for c in range(m):
                p = letter(m, c)
                self.assertEqual((p.falls, p.shift, p * p), (1, 0, plain_shift(m, 0)))
                for i in range(-m, m + 1):
                    wished = i + 1 if i % m == c else i - 1 if (i - 1) % m == c else i
                    self.assertEqual(p(i), wished)
        self.assertEqual([letter(2, 0).told_values, letter(2, 1).told_values], [(1, 0), (-1, 2)])
        check_wrong(self, letter, (3, 1), ("letter round", "third"))
        self.assertEqual(raised(self, InvalidNumber, letter, 60, 60).given, 60)

    def test_widened(self):
        rng = random.Random(7)
        for m in (1, 2, 3, 7, 20, 30, 31, 60):
            p = wild_map(rng, m, 2)
            for wide in range(-1, 130):
                if wide > 0 and wide % m == 0 and wide <= 60:
                    more = widened(p, wide)
                    self.assertEqual((len(more), more == p, p == more), (wide, True, True))
                    self.assertEqual(more.falls * m, p.falls * wide)
                    self.assertEqual(more.shift, p.shift)
                    self.assertEqual(more.told_values, tuple(p(i) for i in range(wide)))
                else:
                    self.assertEqual(raised(self, InvalidNumber, widened, p, wide).given, wide)
        self.assertEqual(raised(self, TooMany, widened, Round((MOST,)), 2).limit, 60)
        self.assertEqual(widened(Round((MOST,)), 1), Round((MOST,)))
        self.assertEqual(raised(self, InvalidNumber, widened, Round((MOST, 0)), 61).given, 61)
        check_wrong(self, widened, (TURN, 6), ("map", "round"))
        for value in NO_INTEGERS:
            self.assertIs(raised(self, InvalidNumber, widened, TURN, value).given, value)

    def test_nothing_is_shared(self):
        values = (3, 1, 2)
        p = Round(values)
        before = (p.told_values, p.shift, p.falls)
        for call in (lambda: p * p, lambda: ~p, lambda: widened(p, 6), lambda: p(0), lambda: made_of(3, (1, (0, 1)))):
            call()
        self.assertEqual((p.told_values, p.shift, p.falls), before)
        self.assertTrue(all(kind in KINDS for kind in ("map", "word")))


if __name__ == "__main__":
    unittest.main()
