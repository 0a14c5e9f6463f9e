import random
import unittest
from itertools import combinations_with_replacement
from math import gcd

from ringstairs.core.cores import cores, is_core, letters_of
from ringstairs.core.levels import (
    are_above, can_be_met, class_with_levels, core_of_levels, distance, has_levels, is_levels, level_richness, levels_of,
)
from ringstairs.core.words import growing_word, made_by
from ringstairs.errors import InvalidChain, InvalidNumber, InvalidOperation, TooMany
from ringstairs.heap.heaps import box, heap_of, is_held, union_of
from ringstairs.link.chains import added, at_ends, order_of
from ringstairs.link.classes import class_of, plain_deal
from ringstairs.rich.richness import richness
from ringstairs.turns.ends import value_at
from tests.common import MOST, NO_LEVELS, PAIR, PILE, SHORT, check_judge, check_wrong, raised
from tests.samples import all_places, random_deal, random_places

THREE = ((3, 1), (3, 1), (3, 2), (6, 2))


def like_chain(rng, k, rings, times=3):
    """A chain of so many rings of the order k, some with mute places."""
    doors = [s for s in range(1, k) if gcd(s, k) == 1]
    factors = [rng.randint(1, max(1, min(times, 60 // k))) for _ in range(rings)]
    return tuple((k * t, t * rng.choice(doors)) for t in factors)


def random_levels(rng, k, spread, most=0):
    middle = rng.randint(-most, most)
    return tuple(sorted(middle + rng.randint(0, spread) for _ in range(k)))


def slow_distance(levels):
    total = 0
    for at, low in enumerate(levels):
        for high in levels[at + 1:]:
            total += max(0, high - low - 1)
    return total


def slow_core(levels):
    core = ()
    for c in range(-max(levels) - 1, -min(levels) + 1):
        columns = sum(max(0, e + c + 1) for e in levels)
        rows = sum(max(0, -e - c - 1) for e in levels)
        if columns and rows:
            core = union_of(core, box(columns, rows))
    return core


def richer(one, other):
    """Whether the first levels tell for no c a lesser richness."""
    low, high = min(one + other), max(one + other)
    return all(level_richness(one, c) >= level_richness(other, c) for c in range(-high - 3, -low + 3))


class TestLevels(unittest.TestCase):
    def test_example(self):
        self.assertEqual(
            [
                distance((-2, 0, 1)), level_richness((-2, 0, 1), 1), can_be_met(4, (-2, 0, 1)),
                core_of_levels((-2, 0, 1)), are_above((-2, 0, 1), (-1, -1, 1)),
            ],
            [3, 4, True, (2, 1, 1), True],
        )

    def test_distance_and_richness(self):
        rng = random.Random(1)
        for _ in range(200):
            levels = random_levels(rng, rng.randint(2, 60), rng.choice((0, 1, 2, 5, 1000)), 10 ** rng.randint(0, 48))
            self.assertIs(is_levels(levels), True)
            self.assertEqual(distance(levels), slow_distance(levels))
            self.assertIs(distance(levels) == 0, levels[-1] <= levels[0] + 1)
            for c in (0, 5, -levels[0], -levels[-1], 1 - levels[0], -levels[0] - 7, 10 ** 49):
                self.assertEqual(level_richness(levels, c), sum(max(0, e + c + 1) for e in levels) - 1)
        self.assertEqual(distance((1 - SHORT, SHORT - 1)), 2 * SHORT - 3)
        self.assertEqual(distance((1 - SHORT,) * 30 + (SHORT - 1,) * 30), 900 * (2 * SHORT - 3))
        self.assertEqual(level_richness((SHORT - 1,) * 60, SHORT - 1), 60 * (2 * SHORT - 1) - 1)

    def test_is_levels(self):
        right = ((0, 1), (0, 0), (0,) * 60, (1, 3), (2, 2), (-2, 0, 1), (1 - SHORT, SHORT - 1))
        for value in right:
            self.assertIs(is_levels(value), True)
        for value in NO_LEVELS + ((0,) * 61, (1, 0), (0,), (0, 1, False), (0, SHORT), (-SHORT, 0)):
            self.assertIs(is_levels(value), False)
        for value in PILE:
            whole = isinstance(value, tuple) and all(isinstance(e, int) and not isinstance(e, bool) for e in value)
            self.assertIs(is_levels(value), (
                whole and 2 <= len(value) <= 60 and list(value) == sorted(value) and max(map(abs, value)) < SHORT
            ))

    def test_above(self):
        rng = random.Random(2)
        seen = {True: 0, False: 0}
        for _ in range(600):
            k = rng.randint(2, 6)
            one = random_levels(rng, k, 4)
            other = random_levels(rng, k, 4)
            shift = sum(one) - sum(other)
            if shift % k:
                continue
            other = tuple(e + shift // k for e in other)
            told = are_above(one, other)
            seen[told] += 1
            tops = [sum(one[-t:]) >= sum(other[-t:]) for t in range(1, k + 1)]
            self.assertIs(told, all(tops))
            self.assertIs(told, richer(one, other))
            if max(distance(one), distance(other)) <= 12:
                self.assertIs(told, is_held(core_of_levels(one), core_of_levels(other)))
        self.assertTrue(min(seen.values()) > 20)
        # One sum, but another number of members; and another sum.
        raised(self, InvalidOperation, are_above, (0, 1), (0, 0, 1))
        raised(self, InvalidOperation, are_above, (0, 1), (0, 2))
        self.assertIs(are_above((1 - SHORT, SHORT - 1), (0, 0)), True)
        self.assertIs(are_above((0, 0), (1 - SHORT, SHORT - 1)), False)

    def test_wrong(self):
        check_wrong(self, distance, ((0, 1),), ("levels",))
        check_wrong(self, level_richness, ((0, 1), 1), ("levels", "short integer"))
        check_wrong(self, are_above, ((-1, 0, 1), (0, 0, 0)), ("levels", "like levels"))
        check_wrong(self, levels_of, (PAIR[:1], {(0, 1): 2}), ("like chain", "deal"))
        check_wrong(self, core_of_levels, ((0, 1),), ("levels",))
        check_wrong(self, can_be_met, (3, (0, 1)), ("ring count", "levels"))
        check_wrong(self, class_with_levels, (THREE, (0, 0, 1)), ("like chain", "three levels"))
        check_wrong(self, has_levels, (THREE, (0, 0, 1), None), ("like chain", "three levels", None))
        self.assertEqual(raised(self, InvalidNumber, level_richness, (0, 1), SHORT).given, SHORT)
        self.assertEqual(raised(self, InvalidNumber, can_be_met, 13, (0, 1)).given, 13)


class TestLevelsOfClasses(unittest.TestCase):
    def test_against_richness_and_map(self):
        rng = random.Random(3)
        for _ in range(120):
            k = rng.choice((2, 2, 3, 3, 4, 5, 6, 8, 13, 30, 60))
            chain = like_chain(rng, k, rng.randint(1, 12))
            deal = random_deal(rng, chain, 4)
            degree, places = class_of(chain, deal)
            levels = levels_of(chain, deal)
            self.assertIs(is_levels(levels), True)
            self.assertEqual(len(levels), k)
            self.assertEqual(sum(levels), degree + 1 - len(chain) - k)
            self.assertTrue(distance(levels) <= len(chain))
            self.assertEqual(levels, tuple(sorted(value_at(chain, degree, places, r) // k for r in range(1 - k, 1))))
            for c in range(-6, 7):
                for ends in (at_ends(chain, 0, c * k), at_ends(chain, c * k, 0), at_ends(chain, 3 * k, (c - 3) * k)):
                    self.assertEqual(level_richness(levels, c), richness(chain, added(chain, deal, ends)))
            self.assertIs(is_core(k, heap_of(chain, places)), True)
            self.assertIs(has_levels(chain, levels, (degree, places)), True)

    def test_great_numbers(self):
        chain = ((2, 1),) * 3
        for levels in ((SHORT - 3, SHORT - 1), (1 - SHORT, 2 - SHORT), (10 ** 49, 10 ** 49 + 2)):
            degree, places = class_with_levels(chain, levels)
            self.assertEqual(degree, sum(levels) + 4)
            self.assertEqual(levels_of(chain, plain_deal(chain, degree, places)), levels)
        for number in (2 * SHORT + 10, -2 * SHORT - 10, MOST, -MOST):
            self.assertEqual(raised(self, TooMany, levels_of, chain, {(0, 0): number, (1, 1): number}).limit, 50)
        # The last degrees whose levels have fifty digits.
        for levels, more in (((SHORT - 1, SHORT - 1), 1), ((1 - SHORT, 1 - SHORT), -1)):
            degree, places = class_with_levels(chain, levels)
            deal = plain_deal(chain, degree, places)
            self.assertEqual(levels_of(chain, deal), levels)
            self.assertEqual(raised(self, TooMany, levels_of, chain, added(chain, deal, {(2, 0): more})).limit, 50)
        raised(self, InvalidChain, levels_of, PAIR, {(0, 0): MOST, (1, 1): MOST})

    def test_all_classes(self):
        for chain in (
            ((2, 1),), ((2, 1), (4, 2)), ((2, 1),) * 4, ((3, 1), (3, 2), (3, 1)), ((3, 1), (6, 2)), THREE, ((4, 1), (4, 3)),
            ((4, 2),) * 3, ((5, 2), (5, 1)),
        ):
            k, g = order_of(chain[0]), len(chain)
            for degree in (-1, 0, 2, 3, 7):
                total = degree + 1 - g - k
                told = {}
                for places in all_places(chain):
                    levels = levels_of(chain, plain_deal(chain, degree, places))
                    told.setdefault(levels, []).append(places)
                near = range(total // k - g - 2, total // k + g + 3)
                every = [row for row in combinations_with_replacement(near, k) if sum(row) == total]
                self.assertEqual(set(told), {row for row in every if distance(row) <= g})
                for row in every:
                    found = class_with_levels(chain, row)
                    self.assertIs(found is not None, row in told)
                    self.assertIs(can_be_met(g, row), row in told)
                    if found is not None:
                        self.assertEqual(found[0], degree)
                        self.assertIn(found[1], told[row])
                    for places in some_of(told.get(row, [])):
                        self.assertIs(has_levels(chain, row, (degree, places)), True)
                        self.assertIs(has_levels(chain, row, (degree + 1, places)), False)
                for levels, rows in told.items():
                    for other in every:
                        if other != levels:
                            self.assertIs(has_levels(chain, other, (degree, rows[0])), False)

    def test_cores_and_heaps(self):
        for chain in (((2, 1),) * 4, ((3, 1),) * 3, ((3, 1), (6, 2), (3, 2), (3, 1)), ((4, 1),) * 3):
            k, g = order_of(chain[0]), len(chain)
            degree = g + 1
            rows = {}
            for places in all_places(chain):
                rows[places] = (heap_of(chain, places), levels_of(chain, plain_deal(chain, degree, places)))
            wanted = {levels for _, levels in rows.values()}
            for levels in wanted:
                core = core_of_levels(levels)
                for heap, other in rows.values():
                    if heap == core:
                        self.assertEqual(other, levels)
                    self.assertIs(is_held(heap, core), richer(other, levels))
                    self.assertIs(is_held(heap, core), are_above(other, levels))
                self.assertIn(core, [heap for heap, _ in rows.values()])

    def test_cores(self):
        rng = random.Random(4)
        for _ in range(300):
            k = rng.choice((2, 3, 4, 5, 7, 20, 60))
            levels = random_levels(rng, k, rng.choice((1, 2, 3, 5)), rng.choice((0, 3, 10 ** 49)))
            if distance(levels) > 12:
                self.assertEqual(raised(self, TooMany, core_of_levels, levels).limit, 12)
                continue
            core = core_of_levels(levels)
            self.assertEqual(core, slow_core(levels))
            self.assertIs(is_core(k, core), True)
            self.assertEqual(letters_of(k, core), distance(levels))
            self.assertEqual(made_by(k, growing_word(k, core)), core)
            self.assertIn(core, cores(k, distance(levels)))

    def test_edges(self):
        self.assertEqual(letters_of(2, core_of_levels((0, 13))), 12)
        self.assertEqual(raised(self, TooMany, core_of_levels, (0, 14)).limit, 12)
        self.assertEqual(raised(self, TooMany, core_of_levels, (0,) * 48 + (2,) * 12).limit, 12)
        self.assertEqual(letters_of(13, core_of_levels((0,) * 12 + (2,))), 12)
        self.assertEqual(core_of_levels((5,) * 60), ())
        self.assertIs(can_be_met(12, (0, 13)), True)
        self.assertIs(can_be_met(11, (0, 13)), False)
        self.assertIs(can_be_met(12, (0, 14)), False)
        self.assertIs(can_be_met(1, (0, 2)), True)
        self.assertIs(can_be_met(1, (SHORT - 1,) * 60), True)
        self.assertIsNone(class_with_levels(((2, 1),) * 12, (0, 14)))
        self.assertIsNone(class_with_levels(((2, 1),), (0, 3)))
        self.assertIs(has_levels(((2, 1),), (0, 3), (5, (0,))), False)
        found = class_with_levels(((2, 1),) * 12, (0, 13))
        self.assertIs(has_levels(((2, 1),) * 12, (0, 13), found), True)
        chain = ((60, 7),) * 12
        self.assertIsNone(class_with_levels(chain, (0,) * 59 + (2,)))
        for levels in ((0,) * 30 + (1,) * 30, (-1,) + (0,) * 47 + (1,) * 12):
            self.assertIs(has_levels(chain, levels, class_with_levels(chain, levels)), True)

    def test_judge(self):
        right = [(1 + 4 + 2, places) for places in all_places(THREE)
                 if levels_of(THREE, plain_deal(THREE, 7, places)) == (0, 0, 1)]
        check_judge(self, has_levels, (THREE, (0, 0, 1)), right)
        degree, places = right[0]
        for value in (
            [degree, places], (degree, list(places)), (degree, places, 0), (degree, places[:-1]), (degree + 3, places),
            (True, places), (degree, places + (0,)), (degree, (3,) + places[1:]), (degree, (False,) + places[1:]), None,
        ):
            self.assertIs(has_levels(THREE, (0, 0, 1), value), False)
        self.assertIs(has_levels(((2, 1),), (-1, -1), (0, (0,))), levels_of(((2, 1),), {(0, 0): 0}) == (-1, -1))
        self.assertIs(has_levels(((2, 1),), (0, 0), (MOST, (0,))), False)

    def test_not_true(self):
        chain = ((3, 1),) * 3
        by_levels = {}
        for places in all_places(chain):
            by_levels.setdefault(levels_of(chain, plain_deal(chain, 3, places)), set()).add(heap_of(chain, places))
        self.assertTrue(any(len(heaps) > 1 for heaps in by_levels.values()))
        # Less distance, but not above; more richness at one c, but not above.
        self.assertTrue(distance((0, 0)) < distance((-1, 1)))
        self.assertIs(are_above((0, 0), (-1, 1)), False)
        one, other = (-1, -1, 2), (-2, 1, 1)
        self.assertTrue(level_richness(one, -2) > level_richness(other, -2))
        self.assertIs(are_above(one, other), False)


def some_of(rows):
    return rows[:3] + rows[-2:]


if __name__ == "__main__":
    unittest.main()
