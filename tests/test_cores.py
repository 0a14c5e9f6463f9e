import random
import unittest
from itertools import product

from ringstairs.core import cores as module
from ringstairs.core.cores import (
    bounded_parts, charges, core_of_charges, core_of_parts, cores, hook, is_core, letters_of,
)
from ringstairs.errors import InvalidHeap, InvalidNumber, InvalidOperation, TooMany
from ringstairs.heap.heaps import common_of, grown, heap_of, is_heap, squares, turned_over
from tests.common import (
    LONG, MOST, NO_CHARGES, NO_CORES, NO_PARTS, NO_SQUARES, PILE, check_judge, check_wrong, raised,
)
from tests.samples import heap_within, random_heap, random_places

KS = (2, 3, 4, 5, 7, 12, 59, 60)


def slow_hook(heap, square):
    c, r = square
    return sum(1 for d, s in squares(heap) if d == c and s >= r or s == r and d > c)


def slow_beads(heap, low):
    """All beads of at least low."""
    told = [h - c - 1 for c, h in enumerate(heap)]
    return {bead for bead in told if bead >= low} | set(range(low, -len(heap)))


def slow_charges(k, heap):
    low = -len(heap) - 2 * k
    beads = slow_beads(heap, low)
    return tuple(
        sum(b % k == r for b in beads if b >= 0) - sum(b not in beads for b in range(low, 0) if b % k == r)
        for r in range(k)
    )


def rows_down(most, total):
    """All tuples of integers from 1 to most with this sum that do not ascend."""
    if total == 0:
        return [()]
    return [(part,) + row for part in range(1, min(most, total) + 1) for row in rows_down(part, total - part)]


class TestCores(unittest.TestCase):
    def test_example(self):
        self.assertEqual((module.MAX_ORDER, module.MAX_LETTERS), (60, 30))
        self.assertEqual(
            [
                is_core(3, (4, 2)), is_core(3, (2, 2)), hook((4, 2), (0, 1)), charges(3, (4, 2)),
                letters_of(3, (4, 2)), bounded_parts(3, (2, 1, 1)),
            ],
            [True, False, 4, (2, -1, -1), 4, (1, 1, 1)],
        )

    def test_hooks(self):
        rng = random.Random(1)
        for _ in range(40):
            heap = random_heap(rng, 8, 8)
            for square in squares(heap):
                self.assertEqual(hook(heap, square), slow_hook(heap, square))
        self.assertEqual([hook((60,) * 60, (0, 0)), hook((60,) * 60, (59, 59))], [119, 1])
        for value in NO_SQUARES:
            raised(self, InvalidOperation, hook, (4, 2), value)
        raised(self, InvalidOperation, hook, (), (0, 0))

    def test_by_hooks_and_by_beads(self):
        rng = random.Random(2)
        seen = {True: 0, False: 0}
        for _ in range(400):
            heap, k = heap_within(rng, 6, 6, 12), rng.randint(2, 7)
            hooks = [hook(heap, square) for square in squares(heap)]
            wished = k not in hooks
            beads = slow_beads(heap, -40)
            self.assertEqual(wished, all(b - k in beads for b in beads if b - k >= -40))
            self.assertIs(is_core(k, heap), wished)
            seen[wished] += 1
            if wished:
                self.assertFalse([h for h in hooks if h % k == 0])
                self.assertEqual(charges(k, heap), slow_charges(k, heap))
                self.assertEqual(letters_of(k, heap), sum(h < k for h in hooks))
                parts = tuple(sum(hook(heap, (c, r)) < k for r in range(h)) for c, h in enumerate(heap))
                self.assertEqual(bounded_parts(k, heap), parts)
                for greater in range(max(hooks + [1]) + 1, 61):
                    self.assertIs(is_core(greater, heap), True)
                    self.assertEqual(letters_of(greater, heap), sum(heap))
                    self.assertEqual(bounded_parts(greater, heap), heap)
        self.assertTrue(min(seen.values()) > 80)

    def test_judge(self):
        for k in (2, 3, 60):
            right = [heap for heap in PILE if is_heap(heap) and all(hook(heap, s) != k for s in squares(heap))]
            check_judge(self, is_core, (k,), right)
        for value in NO_CORES:
            self.assertIs(is_core(3, value), False)
        stairs = tuple(range(60, 0, -1))
        self.assertIs(is_core(2, stairs), True)
        self.assertIs(is_core(2, (61,) + stairs[:-1]), False)
        self.assertIs(is_core(2, tuple(range(61, 0, -1))), False)
        self.assertEqual((letters_of(2, stairs), charges(2, stairs)), (60, (-30, 30)))
        self.assertEqual(bounded_parts(2, stairs), (1,) * 60)
        for k in KS:
            self.assertEqual((is_core(k, ()), charges(k, ()), letters_of(k, ())), (True, (0,) * k, 0))
            self.assertEqual((bounded_parts(k, ()), cores(k, 0), cores(k, 1)), ((), ((),), ((1,),)))

    def test_there_and_back(self):
        for k in KS:
            every = set()
            for letters in range(13):
                told = cores(k, letters)
                self.assertEqual(list(told), sorted(set(told)))
                rows = rows_down(k - 1, letters)
                self.assertEqual(len(told), len(rows))
                self.assertEqual({bounded_parts(k, core) for core in told}, set(rows))
                for core in told:
                    self.assertIs(is_core(k, core), True)
                    self.assertEqual(letters_of(k, core), letters)
                    self.assertEqual(core_of_parts(k, bounded_parts(k, core)), core)
                    self.assertEqual(sum(charges(k, core)), 0)
                    self.assertEqual(core_of_charges(k, charges(k, core)), core)
                    self.assertTrue(len(core) <= letters and max(core + (0,)) <= letters)
                    over = turned_over(core)
                    self.assertIn(over, told)
                    self.assertEqual(charges(k, over), tuple(-charge for charge in charges(k, core)[::-1]))
                every |= set(told)
            self.assertEqual(len(every), sum(len(cores(k, letters)) for letters in range(13)))

    def test_all_small_heaps(self):
        # Each core of at most nine squares is told by its letters.
        for k in (2, 3, 4, 5):
            small = [heap for total in range(10) for heap in rows_down(9, total)]
            for heap in small:
                if is_core(k, heap):
                    self.assertIn(heap, cores(k, letters_of(k, heap)))

    def test_all_small_charges(self):
        for k in (2, 3, 4):
            for row in product(range(-2, 3), repeat=k):
                if sum(row) != 0:
                    raised(self, InvalidOperation, core_of_charges, k, row)
                    continue
                try:
                    core = core_of_charges(k, row)
                except TooMany as caught:
                    self.assertEqual(caught.limit, 30)
                    continue
                self.assertEqual(charges(k, core), row)
                self.assertTrue(letters_of(k, core) <= 30)

    def test_grown_by_rings(self):
        rng = random.Random(3)
        for _ in range(60):
            k = rng.randint(2, 8)
            chain = tuple((k * t, t) for t in (rng.randint(1, 3) for _ in range(8)))
            heap = heap_of(chain, random_places(rng, chain))
            self.assertIs(is_core(k, heap), True)
            core = rng.choice(cores(k, rng.randint(0, 9)))
            for place in range(k):
                self.assertIs(is_core(k, grown(core, (k, 1), place)), True)

    def test_edges(self):
        for k in KS:
            for letters in (30, 31):
                parts = (1,) * letters
                if letters == 30:
                    core = core_of_parts(k, parts)
                    self.assertEqual((letters_of(k, core), bounded_parts(k, core)), (30, parts))
                    self.assertEqual(core_of_charges(k, charges(k, core)), core)
                else:
                    self.assertEqual(raised(self, TooMany, core_of_parts, k, parts).limit, 30)
        self.assertEqual(core_of_parts(60, (30,)), (30,))
        self.assertEqual(raised(self, TooMany, core_of_parts, 60, (31,)).limit, 30)
        self.assertEqual(raised(self, TooMany, core_of_parts, 2, (1,) * 3000).limit, 30)
        self.assertEqual(core_of_charges(2, (-15, 15)), tuple(range(30, 0, -1)))
        self.assertEqual(letters_of(2, core_of_charges(2, (15, -15))), 29)
        self.assertEqual(raised(self, TooMany, core_of_charges, 2, (16, -16)).limit, 30)
        self.assertEqual(raised(self, TooMany, core_of_charges, 2, (-16, 16)).limit, 30)
        self.assertEqual(raised(self, TooMany, core_of_charges, 3, (MOST, 0, -MOST)).limit, 30)
        self.assertEqual(raised(self, TooMany, core_of_charges, 60, (MOST, -MOST) * 30).limit, 30)
        raised(self, InvalidOperation, core_of_charges, 60, (0,) * 61)
        raised(self, InvalidOperation, core_of_charges, 2, (LONG, -LONG))
        self.assertEqual(len(cores(60, 20)), 627)
        self.assertEqual(len(cores(2, 20)), 1)
        self.assertEqual(raised(self, InvalidNumber, cores, 60, 21).given, 21)
        self.assertEqual(raised(self, InvalidNumber, cores, 61, 21).given, 61)
        self.assertEqual(core_of_parts(5, ()), ())

    def test_wrong(self):
        check_wrong(self, is_core, (3, None), ("order", None))
        check_wrong(self, hook, ((4, 2), (0, 0)), ("heap", "square"))
        for call in (charges, letters_of, bounded_parts):
            check_wrong(self, call, (3, (1,)), ("order", "core"))
        check_wrong(self, core_of_charges, (3, (0, 0, 0)), ("order", "charges"))
        check_wrong(self, core_of_parts, (3, (2, 1)), ("order", "parts"))
        check_wrong(self, cores, (3, 4), ("order", "many letters"))
        for value in NO_CHARGES:
            raised(self, InvalidOperation, core_of_charges, 3, value)
        for value in NO_PARTS:
            raised(self, InvalidOperation, core_of_parts, 3, value)
        raised(self, InvalidHeap, charges, 3, (2, 2))

    def test_not_true(self):
        # The common squares of two cores.
        pairs = [
            common_of(one, other) for letters in range(6) for one in cores(3, letters) for other in cores(3, letters)
        ]
        self.assertTrue(any(not is_core(3, heap) for heap in pairs))
        self.assertEqual({sum(core) for core in cores(3, 4)}, {5, 6})
        self.assertTrue(any(
            bounded_parts(3, turned_over(core)) != turned_over(bounded_parts(3, core)) for core in cores(3, 4)
        ))


if __name__ == "__main__":
    unittest.main()
