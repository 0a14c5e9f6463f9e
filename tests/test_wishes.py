import random
import unittest
from itertools import combinations, product

from ringstairs.ends import wishes
from ringstairs.ends.turned import backward
from ringstairs.ends.wishes import (
    classes_meeting, gap_filling, gap_rows, gap_wishes, is_gap_filling, is_wishes, meets, some_class,
)
from ringstairs.errors import InvalidOperation, TooMany
from ringstairs.link.chains import added, at_ends
from ringstairs.link.classes import class_of, plain_deal
from ringstairs.rich.richness import richness
from ringstairs.turns.ends import end_table
from tests.common import (
    EVEN, MOST, NO_LEFT_GAPS, NO_RIGHT_GAPS, NO_WISHES, PAIR, PILE, TRIO, TWELVE, check_judge, check_wrong, raised,
)
from tests.samples import all_places, random_chain, random_deal, random_places


def random_gaps(rng, many, most):
    return tuple(tuple(sorted(rng.sample(range(most + 1), many))) for _ in range(2))


def random_wishes(rng, many, rings, degree):
    """Wishes of which not all are known ahead."""
    rows = []
    for _ in range(many):
        a = rng.randint(-6, 6)
        b = rng.randint(-1, 2 * rings) - a - degree
        rows.append((a, max(-100, min(100, b)), rng.randint(0, 3)))
    return tuple(rows)


def slow_squares(chain, degree, left, right):
    """The squares of a skew shape."""
    k, found = len(left) - 1, {}
    for i in range(k + 1):
        for row in range(i - left[i], len(chain) - degree + i - 1 + right[k - i] + 1):
            found[(i, row)] = True
    return found


def slow_fillings(chain, places, squares):
    """All fillings of a shape by the tuple, as dicts from squares to indices."""
    order = sorted(squares, key=lambda square: (square[0] + square[1], square))
    found = [{}]
    for column, row in order:
        more = []
        for filling in found:
            for index, (many, door) in enumerate(chain):
                if ((column - row) * door - places[index]) % many:
                    continue
                if all(filling.get(one, -1) < index for one in ((column - 1, row), (column, row - 1))):
                    more.append({**filling, (column, row): index})
        found = more
    return found


class TestWishes(unittest.TestCase):
    def test_example(self):
        self.assertEqual((wishes.MAX_WISHES, wishes.MAX_TRIED), (60, 10000))
        self.assertEqual(
            [
                gap_wishes((0, 2), (0, 1)), gap_rows(EVEN, 2, (0, 2), (0, 1)),
                gap_filling(EVEN, {(3, 0): 2}, (0, 2), (0, 1)),
            ],
            [((0, 0, 2), (0, -1, 1), (-2, 0, 1)), ((0, 3), (-1, 3)), ((0, 1, 2), (0, 1, 2, 3))],
        )

    def test_is_wishes(self):
        for value in ((), ((0, 0, 0),), ((100, -100, 40),) * 60, ((-100, 100, 0), (3, 4, 5))):
            self.assertIs(is_wishes(value), True)
        for value in NO_WISHES + (((100, 101, 0),), ((0, 0, 0),) * 61, ((0, 0, 0), (0, 0, 41)), [(0, 0, 0)]):
            self.assertIs(is_wishes(value), False)
        for value in PILE:
            rows = isinstance(value, tuple) and len(value) <= 60 and all(
                isinstance(row, tuple) and len(row) == 3 and {type(number) for number in row} == {int}
                and max(abs(row[0]), abs(row[1])) <= 100 and 0 <= row[2] <= 40 for row in value)
            self.assertIs(is_wishes(value), rows)

    def test_meets(self):
        rng = random.Random(1)
        seen = {True: 0, False: 0}
        for _ in range(300):
            chain = random_chain(rng, 12, 9)
            deal = random_deal(rng, chain, 3)
            degree, places = class_of(chain, deal)
            rows = random_wishes(rng, rng.choice((0, 1, 2, 5, 60)), len(chain), degree)
            told = meets(chain, deal, rows)
            seen[told] += 1
            self.assertIs(told, all(end_table(chain, degree, places, a, b) >= t for a, b, t in rows))
            for a, b, t in rows[:2]:
                rich = richness(chain, added(chain, deal, at_ends(chain, a, b)))
                self.assertIs(meets(chain, deal, ((a, b, t),)), rich >= t - 1)
        self.assertTrue(min(seen.values()) > 50)
        # A degree of sixty-one digits.
        self.assertIs(meets(PAIR, {(0, 0): MOST, (1, 1): MOST}, ((0, 0, 40),)), True)
        self.assertIs(meets(PAIR, {(0, 0): -MOST, (1, 1): -MOST}, ((100, 100, 1),)), False)
        self.assertIs(meets(PAIR, {(0, 0): -MOST}, ((100, 100, 0),)), True)
        self.assertIs(meets(PAIR, {}, ()), True)

    def test_classes(self):
        rng = random.Random(2)
        seen = {True: 0, False: 0}
        for _ in range(160):
            chain = random_chain(rng, 4, 5)
            degree = rng.randint(-1, 2 * len(chain))
            rows = random_wishes(rng, rng.choice((0, 1, 2, 3)), len(chain), degree)
            right = [x for x in all_places(chain) if meets(chain, plain_deal(chain, degree, x), rows)]
            self.assertEqual(classes_meeting(chain, degree, rows), len(right))
            told = some_class(chain, degree, rows)
            seen[told is None] += 1
            self.assertIs(told in right, bool(right))
            self.assertIs(told is None, not right)
            back = tuple((b, a, t) for a, b, t in rows)
            self.assertEqual(classes_meeting(chain[::-1], degree, back), len(right))
        self.assertTrue(min(seen.values()) > 30)

    def test_backward_deals(self):
        rng = random.Random(3)
        for _ in range(100):
            chain = random_chain(rng, 8, 8)
            deal = random_deal(rng, chain, 3)
            rows = random_wishes(rng, 3, len(chain), class_of(chain, deal)[0])
            turned, moved = backward(chain, deal)
            self.assertIs(meets(chain, deal, rows), meets(turned, moved, tuple((b, a, t) for a, b, t in rows)))

    def test_many_wishes(self):
        rng = random.Random(4)
        for chain in (((10, 3),) * 4, ((3, 1),) * 8, ((2, 1),) * 12, ((4, 2),) * 8, ((60, 1), (60, 7)), ((6, 3), (5, 1)) * 3):
            degree = len(chain)
            for _ in range(4):
                x = random_places(rng, chain)
                rows = []
                for _ in range(60):
                    a, b = rng.randint(-100, 100), rng.randint(-100, 100)
                    if rng.random() < 0.9:
                        b = max(-100, min(100, rng.randint(0, 2 * len(chain)) - a - degree))
                    rows.append((a, b, max(0, min(40, end_table(chain, degree, x, a, b) - rng.randint(0, 1)))))
                told = some_class(chain, degree, tuple(rows))
                self.assertIs(meets(chain, plain_deal(chain, degree, told), tuple(rows)), True)
                self.assertTrue(classes_meeting(chain, degree, tuple(rows)) >= 1)

    def test_great_degrees(self):
        self.assertEqual(classes_meeting(TRIO, MOST, ((-100, -100, 40),)), 140)
        self.assertEqual(classes_meeting(TRIO, -MOST, ((100, 100, 1),)), 0)
        self.assertEqual(classes_meeting(TRIO, -MOST, ((100, 100, 0),)), 140)
        self.assertIsNone(some_class(TRIO, -MOST, ((100, 100, 1),)))
        self.assertIsNotNone(some_class(TRIO, MOST, ((-100, -100, 40),)))

    def test_tried(self):
        self.assertEqual(classes_meeting(((10, 1),) * 4, 3, ()), 10000)
        for chain in (((10, 1),) * 4 + ((2, 1),), ((22, 1),) * 3, ((18, 9),) * 9, TWELVE, ((2, 1),) * 11 + ((5, 1),)):
            for call in (some_class, classes_meeting):
                self.assertEqual(raised(self, TooMany, call, chain, 3, ()).limit, 10000)
                raised(self, InvalidOperation, call, chain, 3, None)
        # The product is of orders, one more where a ring has mute places.
        self.assertEqual(classes_meeting(((60, 30),) * 8, 3, ()), 60 ** 8)
        self.assertEqual(classes_meeting(((60, 1),) * 2, 9, ()), 3600)
        self.assertEqual(raised(self, TooMany, classes_meeting, ((60, 30),) * 9, 3, ()).limit, 10000)
        self.assertEqual(classes_meeting(((20, 2),) * 2 + ((9, 1),) * 2, 9, ()), 400 * 81)
        self.assertEqual(raised(self, TooMany, classes_meeting, ((20, 2),) * 3 + ((9, 1),), 3, ()).limit, 10000)
        self.assertEqual(raised(self, TooMany, classes_meeting, ((10, 1), (10, 1), (20, 2), (10, 1)), 3, ()).limit, 10000)
        self.assertEqual(classes_meeting(((18, 2), (10, 1), (10, 1), (10, 1)), 9, ()), 18000)

    def test_not_true(self):
        # One by one some class meets them, but none both.
        found = [
            (chain, degree, one, other)
            for chain in (EVEN, ((3, 1),) * 3) for degree in (2, 3)
            for one in product(range(-3, 1), range(-3, 1), (1, 2)) for other in product(range(-3, 1), (0,), (1, 2))
            if classes_meeting(chain, degree, (one,)) and classes_meeting(chain, degree, (other,))
            and not classes_meeting(chain, degree, (one, other))
        ]
        self.assertTrue(found)

    def test_wrong(self):
        check_wrong(self, meets, (PAIR, {(0, 1): 1}, ((0, 0, 1),)), ("chain", "deal", "wishes"))
        for call in (some_class, classes_meeting):
            check_wrong(self, call, (PAIR, 1, ((0, 0, 1),)), ("chain", "integer", "wishes"))
        check_wrong(self, gap_wishes, ((0, 1), (0, 2)), ("left gaps", "right gaps"))
        check_wrong(self, gap_rows, (PAIR, 1, (0, 1), (0, 2)), ("chain", "integer", "left gaps", "right gaps"))
        check_wrong(
            self, gap_filling, (PAIR, {(0, 1): 1}, (0, 1), (0, 2)), ("chain", "deal", "left gaps", "right gaps"))
        check_wrong(
            self, is_gap_filling, (PAIR, {(0, 1): 1}, (0, 1), (0, 2), None),
            ("chain", "deal", "left gaps", "right gaps", None))


class TestGaps(unittest.TestCase):
    def test_wishes_of_gaps(self):
        rng = random.Random(5)
        for _ in range(100):
            left, right = random_gaps(rng, rng.randint(1, 8), 30)
            rows = gap_wishes(left, right)
            k = len(left) - 1
            self.assertEqual(list(rows), [
                (-left[i], -right[j], k + 1 - i - j) for i in range(k + 1) for j in range(k - i + 1)])
            self.assertIs(is_wishes(rows), True)
        self.assertEqual(gap_wishes((7,), (30,)), ((-7, -30, 1),))

    def test_shapes(self):
        rng = random.Random(6)
        for _ in range(200):
            chain = random_chain(rng, 12, 9)
            degree = rng.randint(-3, 40)
            left, right = random_gaps(rng, rng.randint(1, 8), rng.choice((8, 15, 30)))
            squares = slow_squares(chain, degree, left, right)
            if len(squares) > 400:
                self.assertEqual(raised(self, TooMany, gap_rows, chain, degree, left, right).limit, 400)
                continue
            rows = gap_rows(chain, degree, left, right)
            self.assertEqual({(i, w) for i, (low, high) in enumerate(rows) for w in range(low, high)}, set(squares))
            for i, (low, high) in enumerate(rows):
                self.assertEqual(low, i - left[i])
                self.assertTrue(high >= low)

    def test_limit_of_shapes(self):
        row = tuple(range(8))
        # Eight columns of fifty squares, and one square more.
        self.assertEqual(sum(high - low for low, high in gap_rows(((2, 1),) * 10, -33, row, row)), 400)
        low = (0, 1, 2, 3, 4, 5, 6, 8)
        for left, right in ((low, row), (row, low)):
            for call in (gap_filling, is_gap_filling):
                more = (None,) if call is is_gap_filling else ()
                caught = raised(self, TooMany, call, ((2, 1),) * 10, {(0, 1): -33}, left, right, *more)
                self.assertEqual(caught.limit, 400)
            self.assertEqual(raised(self, TooMany, gap_rows, ((2, 1),) * 10, -33, left, right).limit, 400)
        self.assertIsNone(gap_filling(((2, 1),) * 10, {(0, 1): -33}, row, row))
        self.assertEqual(gap_rows(PAIR, 350, (0,), (0,)), ((0, 0),))
        self.assertEqual(gap_rows(PAIR, -398, (0,), (0,)), ((0, 400),))
        self.assertEqual(raised(self, TooMany, gap_rows, PAIR, -399, (0,), (0,)).limit, 400)
        self.assertEqual(gap_rows(PAIR, MOST, (0, 9), (3, 30)), ((0, 0), (-8, -8)))
        self.assertEqual(raised(self, TooMany, gap_rows, PAIR, -MOST, (0,), (0,)).limit, 400)
        self.assertEqual(gap_filling(PAIR, {(0, 0): MOST, (1, 1): MOST}, (0, 9), (3, 30)), ((), ()))
        self.assertEqual(raised(self, TooMany, gap_filling, PAIR, {(0, 0): -MOST, (1, 1): -MOST}, (0,), (0,)).limit, 400)
        raised(self, InvalidOperation, gap_rows, PAIR, -399, (0,), (31,))

    def test_fillings(self):
        rng = random.Random(7)
        seen = {True: 0, False: 0}
        for _ in range(1500):
            chain = random_chain(rng, 9, 4)
            degree = rng.randint(0, 2 * len(chain))
            deal = plain_deal(chain, degree, random_places(rng, chain))
            left, right = random_gaps(rng, rng.randint(1, 4), rng.choice((4, 6, 9)))
            if len(slow_squares(chain, degree, left, right)) > 400:
                continue
            told = gap_filling(chain, deal, left, right)
            met = meets(chain, deal, gap_wishes(left, right))
            seen[met] += 1
            self.assertIs(told is not None, met)
            if met:
                self.assertIs(is_gap_filling(chain, deal, left, right, told), True)
            else:
                self.assertIs(is_gap_filling(chain, deal, left, right, ((),) * len(left)), False)
        self.assertTrue(min(seen.values()) > 100)

    def test_all_fillings(self):
        rng = random.Random(8)
        done = 0
        while done < 60:
            chain = random_chain(rng, 8, 3)
            deal = random_deal(rng, chain, 2)
            left, right = random_gaps(rng, rng.randint(1, 3), 4)
            degree, places = class_of(chain, deal)
            squares = slow_squares(chain, degree, left, right)
            if not 2 <= len(squares) <= 14:
                continue
            every = slow_fillings(chain, places, squares)
            self.assertIs(gap_filling(chain, deal, left, right) is None, not every)
            if not every:
                continue
            done += 1
            rows = gap_rows(chain, degree, left, right)
            right_ones = [
                tuple(tuple(filling[(i, w)] for w in range(low, high)) for i, (low, high) in enumerate(rows))
                for filling in every
            ]
            self.assertIn(gap_filling(chain, deal, left, right), right_ones)
            for value in right_ones[:20]:
                self.assertIs(is_gap_filling(chain, deal, left, right, value), True)
                for turned in self.turned(rng, value, len(chain)):
                    self.assertIs(
                        is_gap_filling(chain, deal, left, right, turned),
                        any(repr(turned) == repr(one) for one in right_ones), (chain, turned))

    def turned(self, rng, value, rings):
        columns = [at for at, column in enumerate(value) if column]
        for at in columns:
            for row in range(len(value[at])):
                for index in (rng.randrange(rings), rings, -1, bool(value[at][row]), None, value[at][row] + 1):
                    column = value[at][:row] + (index,) + value[at][row + 1:]
                    yield value[:at] + (column,) + value[at + 1:]
            yield value[:at] + (value[at][1:],) + value[at + 1:]
            yield value[:at] + (value[at] + (rings - 1,),) + value[at + 1:]
            yield value[:at] + (list(value[at]),) + value[at + 1:]
        yield value[1:]
        yield value + ((),)
        yield list(value)

    def test_judge(self):
        deal = {(3, 0): 2}
        degree, places = class_of(EVEN, deal)
        every = slow_fillings(EVEN, places, slow_squares(EVEN, degree, (0, 2), (0, 1)))
        right = [
            (tuple(one[(0, w)] for w in range(3)), tuple(one[(1, w)] for w in range(-1, 3))) for one in every]
        check_judge(self, is_gap_filling, (EVEN, deal, (0, 2), (0, 1)), right)
        check_judge(self, is_gap_filling, (EVEN, {(3, 0): 20}, (0, 2), (0, 1)), [((), ())])
        # Columns without squares between others, and no gaps but one.
        self.assertEqual(gap_filling(PAIR, {(1, 0): 3}, (0,), (0,)), ((),))

    def test_edges(self):
        row = tuple(range(8))
        for value in NO_LEFT_GAPS:
            raised(self, InvalidOperation, gap_wishes, value, (0, 1))
        for value in NO_RIGHT_GAPS:
            raised(self, InvalidOperation, gap_wishes, (0, 1), value)
        raised(self, InvalidOperation, gap_wishes, tuple(range(9)), tuple(range(9)))
        raised(self, InvalidOperation, gap_wishes, row, row[:-1])
        raised(self, InvalidOperation, gap_wishes, (0, 31), (0, 1))
        self.assertEqual(len(gap_wishes(row[:-1] + (30,), row[:-1] + (30,))), 36)
        self.assertEqual(gap_wishes(row[:3], row[:3])[0], (0, 0, 3))

    def test_richness_alone(self):
        # The gaps 0 to k at both ends ask for the richness k alone.
        rng = random.Random(9)
        for _ in range(150):
            chain = random_chain(rng, 8, 5)
            deal = random_deal(rng, chain, 2)
            k = rng.randint(0, 3)
            if class_of(chain, deal)[0] < -40:
                continue
            row = tuple(range(k + 1))
            self.assertIs(gap_filling(chain, deal, row, row) is not None, richness(chain, deal) >= k)

    def test_not_true(self):
        # Each row of gaps alone is met, both together are not.
        found = 0
        for chain in (EVEN, ((3, 1),) * 3, PAIR):
            for degree in range(1, 2 * len(chain)):
                for x in all_places(chain):
                    deal = plain_deal(chain, degree, x)
                    for left, right in product(combinations(range(4), 2), repeat=2):
                        alone = gap_filling(chain, deal, left, (0, 1)) and gap_filling(chain, deal, (0, 1), right)
                        if alone and gap_filling(chain, deal, left, right) is None:
                            found += 1
        self.assertTrue(found > 0)


if __name__ == "__main__":
    unittest.main()
