import random
import unittest
from collections import Counter
from itertools import combinations
from math import factorial

from ringstairs.errors import InvalidNumber, TooMany
from ringstairs.fill.boxes import greatest_boxes, is_in_box
from ringstairs.fill.counts import (
    classes_at_least, classes_by_heap, classes_by_richness, doubled_fillings, standard_fillings,
)
from ringstairs.fill.fillings import fillings_count
from ringstairs.heap.heaps import box, common_of, heap_of, squares, turned_over
from ringstairs.link.classes import plain_deal
from ringstairs.rich.richness import richness
from tests.common import EVEN, LONG, MOST, PAIR, TRIO, TWELVE, check_wrong, raised
from tests.samples import all_places, heap_within, random_chain

SIDES = ((0, 0), (0, 6), (6, 0), (1, 1), (2, 1), (1, 3), (2, 2), (3, 3), (6, 6))


def whole(chain):
    many = 1
    for n, _ in chain:
        many *= n
    return many


def fewer(heap):
    """All heaps with one square less."""
    rows = [heap[:c] + (h - 1,) + heap[c + 1:] for c, h in enumerate(heap) if c + 1 == len(heap) or h > heap[c + 1]]
    return [tuple(h for h in row if h) for row in rows]


def slow_standard(heap, known):
    """Standard fillings one by one, by the square of the greatest integer."""
    if not heap:
        return 1
    if heap not in known:
        known[heap] = sum(slow_standard(part, known) for part in fewer(heap))
    return known[heap]


def slow_doubled(columns, rows):
    """Doubled fillings of a small box: all ways to share out the integers 0 to a b."""
    spots = [(c, r) for c in range(columns) for r in range(rows)]
    many = 0
    for spot in spots:
        # The square gets two integers: it is looked at as two squares, the second one right behind the first.
        parts = [(one, 0) for one in spots] + [(spot, 1)]
        ahead = {
            part: [
                other for other in parts if other != part and (
                    other[0] == part[0] and other[1] < part[1]
                    or other[0] in ((part[0][0] - 1, part[0][1]), (part[0][0], part[0][1] - 1))
                )
            ] for part in parts
        }
        many += orders(parts, ahead, frozenset(), {})
    return many


def orders(parts, ahead, done, known):
    if len(done) == len(parts):
        return 1
    if done not in known:
        known[done] = sum(
            orders(parts, ahead, done | {part}, known) for part in parts
            if part not in done and all(other in done for other in ahead[part])
        )
    return known[done]


class TestClasses(unittest.TestCase):
    def test_example(self):
        self.assertEqual(
            [
                classes_by_heap(PAIR, 1, 1), classes_at_least(PAIR, 1, 0), classes_by_richness(EVEN, 2),
                classes_at_least(TRIO, 3, 1),
            ],
            [{(): 6, (1,): 6}, 6, {-1: 5, 0: 10, 1: 1}, 14],
        )

    def test_by_all_classes(self):
        rng = random.Random(1)
        for _ in range(40):
            chain = random_chain(rng, 4, rng.choice((2, 3, 5)))
            tuples = all_places(chain)
            heaps = [heap_of(chain, places) for places in tuples]
            for columns, rows in SIDES:
                told = classes_by_heap(chain, columns, rows)
                self.assertEqual(told, dict(Counter(common_of(heap, box(columns, rows)) for heap in heaps)))
                self.assertEqual(list(told), sorted(told))
                self.assertEqual(sum(told.values()), whole(chain))
                self.assertTrue(min(told.values()) > 0)
            for degree in range(-2, 2 * len(chain) + 3):
                rich = Counter(richness(chain, plain_deal(chain, degree, places)) for places in tuples)
                told = classes_by_richness(chain, degree)
                self.assertEqual(told, dict(rich))
                self.assertEqual(list(told), sorted(told))
                for k in range(6):
                    wished = sum(many for r, many in rich.items() if r >= k)
                    self.assertEqual(classes_at_least(chain, degree, k), wished)

    def test_greater_chains_against_one_another(self):
        rng = random.Random(2)
        for _ in range(30):
            chain = random_chain(rng, 12, rng.choice((2, 3, 8, 60)))
            g = len(chain)
            for degree in range(-1, 2 * g + 1):
                told = classes_by_richness(chain, degree)
                self.assertEqual(sum(told.values()), whole(chain))
                self.assertEqual(list(told), sorted(told))
                for k in range(degree // 2 + 3):
                    least = classes_at_least(chain, degree, k)
                    self.assertEqual(least, sum(many for r, many in told.items() if r >= k))
                    other = k - degree - 1 + g
                    if 0 <= other <= 40:
                        self.assertEqual(least, classes_at_least(chain, 2 * g - 2 - degree, other))
                    columns, rows = k + 1, g - degree + k
                    if 0 < rows <= 6 and columns <= 6:
                        self.assertEqual(least, classes_by_heap(chain, columns, rows).get(box(columns, rows), 0))

    def test_by_greatest_boxes(self):
        rng = random.Random(3)
        for _ in range(20):
            chain, heap = random_chain(rng, 5, 3), box(rng.randint(1, 2), rng.randint(1, 2))
            told = classes_by_heap(chain, len(heap), heap[0]).get(heap, 0)
            rows = greatest_boxes(chain, heap)
            self.assertEqual(told, sum(any(is_in_box(chain, row, x) for row in rows) for x in all_places(chain)))

    def test_edges(self):
        self.assertEqual(classes_by_heap(TWELVE, 0, 0), {(): whole(TWELVE)})
        self.assertEqual(classes_by_heap(TWELVE, 6, 0), {(): whole(TWELVE)})
        self.assertEqual(sum(classes_by_heap(((60, 7),) * 12, 6, 6).values()), 60 ** 12)
        self.assertEqual(classes_by_heap(((2, 1),), 6, 6), {(): 1, (1,): 1})
        self.assertEqual(classes_by_heap(EVEN, 6, 6), dict(sorted(
            Counter(heap_of(EVEN, places) for places in all_places(EVEN)).items()
        )))
        for degree in (-1, -MOST, -10 ** 30):
            self.assertEqual(classes_by_richness(TWELVE, degree), {-1: whole(TWELVE)})
            for k in (0, 1, 40):
                self.assertEqual(classes_at_least(TWELVE, degree, k), 0)
        for degree in (23, 24, 100, MOST):
            self.assertEqual(classes_by_richness(TWELVE, degree), {degree - 12: whole(TWELVE)})
        self.assertEqual(classes_at_least(TWELVE, 52, 40), whole(TWELVE))
        self.assertEqual(classes_at_least(TWELVE, 51, 40), 0)
        self.assertEqual(classes_at_least(TWELVE, MOST, 0), whole(TWELVE))
        self.assertEqual(classes_by_richness(((5, 2),), 0), {-1: 4, 0: 1})
        self.assertEqual(classes_by_richness(((5, 2),), 1), {0: 5})
        # The canonical class alone is so rich.
        self.assertEqual(classes_at_least(TWELVE, 22, 11), 1)

    def test_wrong(self):
        check_wrong(self, classes_by_heap, (PAIR, 1, 2), ("chain", "cut side", "cut side"))
        check_wrong(self, classes_at_least, (PAIR, 1, 0), ("chain", "integer", "times"))
        check_wrong(self, classes_by_richness, (PAIR, 1), ("chain", "integer"))
        check_wrong(self, standard_fillings, ((2, 1),), ("heap",))
        check_wrong(self, doubled_fillings, (2, 1), ("doubled side", "doubled side"))
        self.assertEqual(raised(self, InvalidNumber, classes_at_least, PAIR, LONG, 41).given, LONG)

    def test_not_true(self):
        # A square of 2 columns and 3 rows is told by four rings of order 2.
        self.assertEqual(classes_at_least(EVEN, 2, 1), 1)
        self.assertNotEqual(classes_by_richness(((4, 2),) * 2, 1), classes_by_richness(((2, 1),) * 2, 1))


class TestFillings(unittest.TestCase):
    def test_standard(self):
        rng = random.Random(4)
        known = {}
        for _ in range(150):
            heap = heap_within(rng, 6, 6, 24)
            told = standard_fillings(heap)
            self.assertEqual(told, slow_standard(heap, known))
            self.assertEqual(told, standard_fillings(turned_over(heap)))
        self.assertEqual([standard_fillings(heap) for heap in ((), (1,), (2, 1), (2, 2), (3, 2, 1))], [1, 1, 2, 2, 16])

    def test_standard_of_great_heaps(self):
        for heap in ((60,), (1,) * 60, (59, 1), (20,) * 10, (50, 50, 50, 50), (5,) * 40, (10,) * 20):
            told = standard_fillings(heap)
            product = 1
            for c, r in squares(heap):
                product *= heap[c] - r + sum(h > r for h in heap[c:]) - 1
            self.assertEqual(told * product, factorial(sum(heap)))
        self.assertEqual(standard_fillings((59, 1)), 59)
        for heap in ((20,) * 10 + (1,), (60,) * 60, (51, 50, 50, 50)):
            self.assertEqual(raised(self, TooMany, standard_fillings, heap).limit, 200)

    def test_doubled(self):
        for a in range(1, 5):
            for b in range(1, 5):
                if a * b <= 12:
                    self.assertEqual(doubled_fillings(a, b), slow_doubled(a, b))
        for a in range(1, 11):
            for b in range(1, 11):
                told = doubled_fillings(a, b)
                self.assertEqual(told, b * standard_fillings((b + 1,) + (b,) * (a - 1)))
                self.assertEqual(told, a * standard_fillings((b,) * a + (1,)))
                self.assertEqual(told, doubled_fillings(b, a))
        self.assertEqual([doubled_fillings(1, 1), doubled_fillings(2, 1), doubled_fillings(2, 2)], [1, 2, 10])

    def test_great_orders(self):
        rng = random.Random(5)
        for a in range(1, 5):
            for b in range(1, 5):
                for g in (a * b - 1, a * b, a * b + 1):
                    if not 1 <= g <= 12:
                        continue
                    orders = [rng.randint(max(2, a + b - 1), a + b + 3) for _ in range(g)]
                    chain = tuple((m * times, times) for m, times in ((m, rng.randint(1, 3)) for m in orders))
                    many = standard_fillings(box(a, b))
                    wished = 0
                    if g == a * b:
                        wished = many
                    if g == a * b + 1:
                        wished = many * sum(n for n, _ in chain) - doubled_fillings(a, b)
                    self.assertEqual(classes_at_least(chain, g - b + a - 1, a - 1), wished)
                    self.assertEqual(fillings_count(chain, box(a, b)), many * sum(1 for _ in combinations(chain, a * b)))


if __name__ == "__main__":
    unittest.main()
