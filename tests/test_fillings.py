import random
import unittest
from itertools import combinations, product

from ringstairs.errors import InvalidHeap, InvalidTuple, TooMany
from ringstairs.fill import fillings
from ringstairs.fill.counts import standard_fillings
from ringstairs.fill.fillings import (
    does_fit, fewest_letters, fillings_count, fitting, is_filling, is_shortage, shortage, some_filling,
)
from ringstairs.heap.heaps import box, heap_of, is_held, squares, turned_over
from ringstairs.link.chains import does_let, order_of
from ringstairs.link.classes import plain_deal
from ringstairs.rich.richness import filling_of, richness
from tests.common import (
    EVEN, NO_FILLINGS, NO_HEAPS, NO_PLACES, PAIR, PILE, TRIO, TWELVE, check_judge, check_wrong, raised,
)
from tests.samples import all_places, heap_within, random_chain, random_places

TWOS = ((2, 1), (2, 1), (2, 1))
STAIRS = (8, 7, 6, 6, 5, 4, 3, 2, 1)
SHAPES = (
    (), (1,), (42,), (1,) * 42, (6,) * 7, (7,) * 6, STAIRS, (12, 10, 8, 6, 4, 2), (4, 4, 4), (3, 2, 1),
    (11, 8, 6, 4, 4, 3, 2, 1, 1, 1, 1), (21, 21), (2,) * 21, (8, 7, 6, 5, 4, 3, 2, 1),
)


def slow_is_filling(chain, heap, value):
    """Whether labels are a filling, by the words of [10.1], square by square."""
    told = {(c, r): value[c][r] for c, r in squares(heap)}
    for (c, r), j in told.items():
        if not 0 <= j < len(chain):
            return False
        if (c + 1, r) in told and told[(c + 1, r)] <= j or (c, r + 1) in told and told[(c, r + 1)] <= j:
            return False
    return all(
        (c - r - d + s) % order_of(chain[j]) == 0
        for (c, r), j in told.items() for (d, s), i in told.items() if i == j
    )


def fits(chain, places, value):
    return all(
        does_let(chain[j], places[j], c - r) for c, column in enumerate(value) for r, j in enumerate(column)
    )


def labels(chain, heap):
    """All ways to put an index of a ring in each square."""
    for row in product(range(len(chain)), repeat=sum(heap)):
        rest = list(row)
        yield tuple(tuple(rest.pop() for _ in range(height)) for height in heap)


def letters_in(value):
    return {letter for column in value for letter in column}


class TestFillings(unittest.TestCase):
    def test_example(self):
        self.assertEqual((fillings.MAX_SQUARES, fillings.MAX_KEPT), (42, 1000))
        self.assertEqual(
            [
                is_filling(TWOS, (2, 2), ((0, 1), (1, 2))), fewest_letters(TWOS, (2, 2)),
                fillings_count(TWOS, (2, 2)), some_filling(((3, 1),) * 3, (2, 2)),
            ],
            [True, 3, 1, None],
        )

    def test_all_labels(self):
        rng = random.Random(1)
        have = lack = 0
        for _ in range(70):
            chain, heap = random_chain(rng, 4, 5), heap_within(rng, 3, 3, 5)
            places = [random_places(rng, chain) for _ in range(4)]
            right = []
            for value in labels(chain, heap):
                told = is_filling(chain, heap, value)
                self.assertIs(told, slow_is_filling(chain, heap, value))
                right += [value] if told else []
                for spots in places:
                    self.assertIs(does_fit(chain, heap, spots, value), told and fits(chain, spots, value))
            self.assertEqual(fillings_count(chain, heap), len(right))
            self.check_told(chain, heap, right)
            for spots in places:
                told = fitting(chain, heap, spots)
                self.assertEqual(told is None, not any(fits(chain, spots, value) for value in right))
                self.assertEqual(told is not None, is_held(heap_of(chain, spots), heap))
                self.assertTrue(told is None or told in right)
            have, lack = have + bool(right), lack + (not right)
        self.assertTrue(min(have, lack) > 15)

    def check_told(self, chain, heap, right):
        told, paper, least = some_filling(chain, heap), shortage(chain, heap), fewest_letters(chain, heap)
        if right:
            self.assertIn(told, right)
            self.assertIsNone(paper)
            self.assertEqual(least, min(len(letters_in(value)) for value in right))
        else:
            self.assertEqual((told, least), (None, None))
            self.assertIs(is_shortage(chain, heap, paper), True)

    def test_by_all_tuples(self):
        rng = random.Random(2)
        for _ in range(40):
            chain, heap = random_chain(rng, 4, 4), heap_within(rng, 4, 4, 9)
            held = [places for places in all_places(chain) if is_held(heap_of(chain, places), heap)]
            self.assertEqual(some_filling(chain, heap) is not None, bool(held))
            for places in held[:5]:
                self.assertIs(does_fit(chain, heap, places, fitting(chain, heap, places)), True)
            for many in range(len(chain) + 1):
                # Fewest letters by chains with rings left out.
                parts = [tuple(chain[j] for j in row) for row in combinations(range(len(chain)), many) if row]
                if any(some_filling(part, heap) is not None for part in parts):
                    self.assertEqual(fewest_letters(chain, heap), many if heap else 0)
                    break
                if not heap:
                    self.assertEqual(fewest_letters(chain, heap), 0)

    def test_great_heaps(self):
        rng = random.Random(3)
        have = lack = 0
        for heap in SHAPES:
            for orders in ((2,), (2, 3), (2, 2, 2, 5, 60), (3,), (60,), (2, 3, 4, 5, 6, 7)):
                chain = tuple((n, rng.randint(1, n - 1)) for n in (rng.choice(orders) for _ in range(12)))
                told, paper, many = some_filling(chain, heap), shortage(chain, heap), fillings_count(chain, heap)
                self.assertIs(told is None, paper is not None)
                self.assertIs(many == 0, told is None)
                least = fewest_letters(chain, heap)
                if told is None:
                    lack += 1
                    self.assertIsNone(least)
                    self.assertIs(is_shortage(chain, heap, paper), True)
                    self.assertTrue(all(1 <= len(row) <= 1000 for row in paper))
                else:
                    have += 1
                    self.assertIs(is_filling(chain, heap, told), True)
                    self.assertTrue(least <= len(letters_in(told)) <= 12)
        self.assertTrue(min(have, lack) > 10)

    def test_turned_at_one_place(self):
        rng = random.Random(4)
        for _ in range(30):
            chain = random_chain(rng, 8, 4)
            heap = heap_of(chain, random_places(rng, chain))
            if not 0 < sum(heap) <= 42:
                continue
            value = some_filling(chain, heap)
            check_judge(self, is_filling, (chain, heap), [value] + self.in_pile(chain, heap))
            for c, r in squares(heap):
                for letter in list(range(-1, len(chain) + 1)) + [None, True, "0", (0,)]:
                    turned = [list(column) for column in value]
                    turned[c][r] = letter
                    turned = tuple(map(tuple, turned))
                    wished = type(letter) is int and slow_is_filling(chain, heap, turned)
                    self.assertIs(is_filling(chain, heap, turned), wished)
            for turned in (list(value), value + ((),), value[:-1], tuple(map(list, value)), value[::-1] + ((0,),)):
                self.assertIs(is_filling(chain, heap, turned), False)
                self.assertIs(does_fit(chain, heap, (0,) * len(chain), turned), False)

    def in_pile(self, chain, heap):
        shaped = [
            value for value in PILE if type(value) is tuple and len(value) == len(heap)
            and all(type(column) is tuple and len(column) == h for column, h in zip(value, heap))
            and all(type(j) is int for column in value for j in column)
        ]
        return [value for value in shaped if slow_is_filling(chain, heap, value)]

    def test_fitting_and_its_judge(self):
        rng = random.Random(5)
        for _ in range(60):
            chain = random_chain(rng, 12, rng.choice((2, 4, 60)))
            places = random_places(rng, chain)
            whole = heap_of(chain, places)
            heap = tuple(min(h, rng.randint(1, 6)) for h in whole[:6])
            heap = tuple(sorted(heap, reverse=True))
            value = fitting(chain, heap, places)
            self.assertIs(does_fit(chain, heap, places, value), True)
            self.assertIs(is_filling(chain, heap, value), True)
            for j in letters_in(value):
                n, _ = chain[j]
                for spot in range(n):
                    moved = places[:j] + (spot,) + places[j + 1:]
                    self.assertIs(does_fit(chain, heap, moved, value), spot == places[j])
            taller = (len(chain) + 1,)
            self.assertIsNone(fitting(chain, taller, places))

    def test_as_fillings_of_boxes(self):
        # A filling for k of a deal is a filling of the box that fits its tuple.
        rng = random.Random(6)
        for _ in range(60):
            chain = random_chain(rng, 8, 3)
            places, degree = random_places(rng, chain), rng.randint(0, 2 * len(chain) - 1)
            k = rng.randint(0, 2)
            heap = box(k + 1, len(chain) - degree + k)
            if sum(heap) <= 42:
                told = filling_of(chain, plain_deal(chain, degree, places), k)
                self.assertEqual(fitting(chain, heap, places) is None, told is None)
                self.assertEqual(told is None, richness(chain, plain_deal(chain, degree, places)) < k)
                if told is not None:
                    self.assertIs(does_fit(chain, heap, places, told), True)

    def test_edges(self):
        self.assertEqual((some_filling(PAIR, ()), shortage(PAIR, ()), fitting(PAIR, (), (0, 0))), ((), None, ()))
        self.assertEqual((fewest_letters(PAIR, ()), fillings_count(PAIR, ())), (0, 1))
        self.assertIs(is_filling(PAIR, (), ()), True)
        self.assertIs(is_filling(PAIR, (), ((),)), False)
        self.assertIs(is_shortage(PAIR, (), (((),),) * 3), False)
        self.assertEqual(fillings_count(TWELVE, (13,)), 0)
        self.assertEqual(fillings_count(TWELVE, (12,)), 1)
        self.assertEqual(fillings_count(TWELVE, (11,)), 12)
        self.assertEqual(some_filling(((2, 1),) * 12, (6,) * 7), tuple(tuple(range(c, c + 6)) for c in range(7)))
        self.assertEqual(fillings_count(((2, 1),) * 12, (6,) * 7), 1)
        self.assertIsNone(some_filling(((2, 1),) * 11, (6,) * 7))

    def test_too_many_squares(self):
        for heap in ((43,), (6,) * 7 + (1,), (60,) * 60, (1,) * 43):
            for call in (some_filling, shortage, fewest_letters, fillings_count):
                self.assertEqual(raised(self, TooMany, call, PAIR, heap).limit, 42)
            for value in NO_FILLINGS:
                self.assertEqual(raised(self, TooMany, is_filling, PAIR, heap, value).limit, 42)
                self.assertEqual(raised(self, TooMany, is_shortage, PAIR, heap, value).limit, 42)
            for value in NO_PLACES:
                self.assertEqual(raised(self, TooMany, fitting, PAIR, heap, value).limit, 42)
                self.assertEqual(raised(self, TooMany, does_fit, PAIR, heap, value, None).limit, 42)
        for value in NO_HEAPS:
            raised(self, InvalidHeap, fitting, PAIR, value, None)
        raised(self, InvalidTuple, fitting, PAIR, (42,), None)
        self.assertIsNone(some_filling(PAIR, (42,)))

    def test_wrong(self):
        for call in (some_filling, shortage, fewest_letters, fillings_count):
            check_wrong(self, call, (PAIR, (2, 1)), ("chain", "heap"))
        check_wrong(self, fitting, (PAIR, (1,), (0, 0)), ("chain", "heap", "places"))
        check_wrong(self, does_fit, (PAIR, (1,), (0, 0), None), ("chain", "heap", "places", None))
        for call in (is_filling, is_shortage):
            check_wrong(self, call, (PAIR, (1,), None), ("chain", "heap", None))
        check_judge(self, is_filling, (PAIR, (1, 1)), [((0,), (1,))])
        check_judge(self, does_fit, (PAIR, (1, 1), (0, 1)), [((0,), (1,))])
        for value in NO_FILLINGS:
            self.assertIs(is_filling(PAIR, (1, 1), value), False)


class TestTurned(unittest.TestCase):
    def test_turned_over(self):
        rng = random.Random(7)
        for _ in range(60):
            chain, heap = random_chain(rng, 9, 4), heap_within(rng, 5, 5, 16)
            over = turned_over(heap)
            self.assertEqual(fillings_count(chain, heap), fillings_count(chain, over))
            self.assertEqual(fewest_letters(chain, heap), fewest_letters(chain, over))
            value = some_filling(chain, heap)
            if value is not None:
                turned = tuple(tuple(value[r][c] for r in range(h)) for c, h in enumerate(over))
                self.assertIs(is_filling(chain, over, turned), True)

    def test_read_backward(self):
        rng = random.Random(8)
        for _ in range(80):
            chain = random_chain(rng, 9, 3)
            columns, rows = rng.randint(1, 4), rng.randint(1, 4)
            heap = box(columns, rows)
            value = some_filling(chain, heap)
            self.assertEqual(fillings_count(chain, heap), fillings_count(chain[::-1], heap))
            self.assertEqual(fewest_letters(chain, heap), fewest_letters(chain[::-1], heap))
            if value is not None:
                turned = tuple(tuple(len(chain) - 1 - j for j in column[::-1]) for column in value[::-1])
                self.assertIs(is_filling(chain[::-1], heap, turned), True)

    def test_great_orders(self):
        rng = random.Random(9)
        for _ in range(60):
            heap = heap_within(rng, 4, 4, 12)
            sides = len(heap) + max(heap + (0,)) - 1
            g = rng.randint(1, 12)
            chain = tuple((n, 1) for n in (rng.randint(max(2, sides), max(2, sides) + 5) for _ in range(g)))
            many = sum(1 for _ in combinations(range(g), sum(heap)))
            self.assertEqual(fillings_count(chain, heap), many * standard_fillings(heap))
            self.assertEqual(fewest_letters(chain, heap), sum(heap) if sum(heap) <= g else None)

    def test_boxes_of_one_order(self):
        for k in range(2, 9):
            for a in range(1, 7):
                for b in range(1, 7):
                    least = min((a - l) * (b - l) + l * k for l in range(min(a, b)))
                    told = fewest_letters(((k, 1),) * 12, box(a, b))
                    self.assertEqual(told, least if least <= 12 else None)

    def test_not_true(self):
        # The square needs a ring of order 2 in the middle.
        self.assertEqual(some_filling(((3, 1), (2, 1), (3, 1)), (2, 2)), ((0, 1), (1, 2)))
        self.assertIsNone(some_filling(((2, 1), (3, 1), (3, 1)), (2, 2)))
        self.assertEqual([fewest_letters(EVEN, (2, 1)), fewest_letters(EVEN, (1, 1))], [2, 2])
        self.assertEqual(fewest_letters(TRIO, (1,)), 1)


class TestShortages(unittest.TestCase):
    def test_told_one(self):
        chain, heap = ((3, 1),) * 3, (2, 2)
        paper = shortage(chain, heap)
        self.assertEqual((len(paper), paper[0]), (4, ((),)))
        check_judge(self, is_shortage, (chain, heap), [paper])
        for value in (
            list(paper), paper[:-1], paper + (paper[-1],), paper[::-1], ((),) + paper[1:], (((), ()),) + paper[1:],
            (((1,),),) + paper[1:], ([()],) + paper[1:], paper[:-1] + ((heap,),), paper[:-1] + (paper[-1] + (heap,),),
            paper[:-1] + ((),), paper[:1] + (((),),) + paper[2:], paper[:-1] + ((3, 2),), paper[:-1] + (((3, 2),),),
            paper[:-1] + (((2, True),),), paper[:-1] + (((1, 2),),), paper[:-1] + (((2, 1, 1),),),
            tuple(map(list, paper)), None, (None,) * 4, ((((),),) * 4)[:3],
        ):
            self.assertIs(is_shortage(chain, heap, value), False, value)

    def test_those_of_others(self):
        chain, heap = ((3, 1),) * 3, (2, 2)
        # All heaps that lack the last square, whatever grows of them, but for the last row.
        right = (((),), ((1,),), ((2,), (1, 1)), ((2, 1),))
        self.assertIs(is_shortage(chain, heap, right), True)
        self.assertIs(is_shortage(chain, heap, (((),), ((1,), (), (1,)), ((1, 1), (2,), (2,)), ((2, 1), ()))), True)
        self.assertIs(is_shortage(chain, heap, (((),), ((1,),), ((2, 1),), ((2, 1),))), False)
        self.assertIs(is_shortage(chain, heap, (((),), ((1,),), ((2,),), ((2, 1),))), False)
        self.assertIs(is_shortage(chain, heap, (((),), ((1,),), ((1, 1),), ((2, 1),))), False)
        self.assertIs(is_shortage(chain, heap, (((),), ((),), ((2,), (1, 1)), ((2, 1),))), False)
        # A heap that grows into nothing that the next row holds.
        self.assertIs(is_shortage(chain, heap, (((),), ((1,),), ((2,), (1, 1)), ((2,), (1, 1)))), False)

    def test_slow_judge(self):
        rng = random.Random(10)
        seen = {True: 0, False: 0}
        for _ in range(400):
            chain, heap = random_chain(rng, 3, 3), heap_within(rng, 3, 3, 6)
            every = [part for part in self.within(heap) if part != heap] or [()]
            paper = shortage(chain, heap)
            if paper is None or rng.random() < 0.3:
                rows = [tuple(rng.sample(every, rng.randint(1, len(every)))) for _ in chain]
                paper = (((),),) + tuple(rows)
            elif rng.random() < 0.8:
                at = rng.randrange(1, len(paper))
                row = paper[at] + (rng.choice(every),) if rng.random() < 0.5 else (rng.choice(every),)
                paper = paper[:at] + (row,) + paper[at + 1:]
            wished = self.slow_judge(chain, heap, paper)
            seen[wished] += 1
            self.assertIs(is_shortage(chain, heap, paper), wished)
            if wished:
                self.assertEqual(fillings_count(chain, heap), 0)
        self.assertTrue(min(seen.values()) > 50)

    def within(self, heap):
        rows = product(*[range(height + 1) for height in heap])
        return [tuple(h for h in row if h) for row in rows if list(row) == sorted(row, reverse=True)]

    def slow_judge(self, chain, heap, paper):
        if paper[0] != ((),) or heap in paper[-1]:
            return False
        lot = set(squares(heap))
        for ring, row, behind in zip(chain, paper, paper[1:]):
            m = order_of(ring)
            for part in row:
                have = set(squares(part))
                more = {
                    (c, r) for c, r in lot - have
                    if (c == 0 or (c - 1, r) in have) and (r == 0 or (c, r - 1) in have)
                }
                made = [have | {(c, r) for c, r in more if (c - r) % m == rest} for rest in range(m)] + [have]
                if not all(any(one <= set(squares(other)) for other in behind) for one in made):
                    return False
        return True

    def test_long_rows(self):
        chain, heap = ((3, 1),) * 3, (2, 2)
        rows = (((),), ((1,),), ((2,), (1, 1)))
        self.assertIs(is_shortage(chain, heap, rows + (((2, 1),) * 1000,)), True)
        self.assertIs(is_shortage(chain, heap, rows + (((2, 1),) * 1001,)), False)
        chain, heap = ((60, 1),) * 12, (8, 7, 6, 5, 4, 3, 2, 1)
        paper = shortage(chain, heap)
        parts = self.within(heap)[:1000]
        self.assertNotIn(heap, parts)
        padded = paper[:5] + (paper[5] + tuple(part for part in parts if sum(part) < 6),) + paper[6:]
        self.assertIs(is_shortage(chain, heap, padded), True)
        full = tuple(parts[:1000 - len(paper[12])]) + paper[12]
        self.assertEqual(len(full), 1000)
        self.assertIs(is_shortage(chain, heap, paper[:12] + (full,)), True)
        self.assertIs(is_shortage(chain, heap, paper[:12] + (full + ((),),)), False)
        all_rows = paper[:1] + (full,) * 12
        self.assertIs(is_shortage(chain, heap, all_rows), False)

    def test_told_ones_turned(self):
        rng = random.Random(11)
        for _ in range(15):
            chain, heap = random_chain(rng, 6, 4), heap_within(rng, 5, 5, 16)
            paper = shortage(chain, heap)
            if paper is None or len(chain) == 1:
                continue
            check_judge(self, is_shortage, (chain, heap), [paper])
            for at in range(1, len(paper)):
                # Each of its greatest heaps is reached: without it something grows into nothing.
                for spot in range(len(paper[at])):
                    row = paper[at][:spot] + paper[at][spot + 1:]
                    turned = paper[:at] + (row,) + paper[at + 1:]
                    self.assertIs(is_shortage(chain, heap, turned), bool(row) and self.slow_judge(chain, heap, turned))
                    if at < len(paper) - 1:
                        self.assertIs(is_shortage(chain, heap, turned), False)


if __name__ == "__main__":
    unittest.main()
