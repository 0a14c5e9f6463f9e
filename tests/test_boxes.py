import random
import unittest
from itertools import product
from unittest import mock

from ringstairs.errors import InvalidBox, InvalidFilling, InvalidHeap, InvalidTuple, TooMany
from ringstairs.fill import boxes
from ringstairs.fill.boxes import (
    box_of, boxes_with, does_fill, greatest_boxes, holds_box, is_box, is_in_box, left_out, meeting, size_of,
)
from ringstairs.fill.fillings import fewest_letters, fitting, some_filling
from ringstairs.heap.heaps import heap_of, is_held
from ringstairs.link.chains import order_of
from ringstairs.link.classes import plain_deal
from ringstairs.rich.richness import richness
from tests.common import (
    LONG, NO_BOXES, NO_FILLINGS, NO_HEAPS, NO_PLACES, PAIR, PILE, TRIO, TWELVE, check_judge, check_wrong, raised,
)
from tests.samples import all_places, heap_within, random_chain, random_places

THREES = ((3, 1),) * 4


def all_boxes(chain):
    return list(product(*[[None] + list(range(n)) for n, _ in chain]))


def random_box(rng, chain, share):
    return tuple(None if rng.random() < share else rng.randrange(n) for n, _ in chain)


def in_order(rows):
    return tuple(sorted(rows, key=lambda row: [-1 if place is None else place for place in row]))


def fillings_of(chain, heap):
    """All fillings, letter by letter, each as a tuple of columns."""
    found = []
    spots = [(c, r) for c, h in enumerate(heap) for r in range(h)]

    def fill(told, rests):
        if len(told) == len(spots):
            found.append(tuple(tuple(told[(c, r)] for r in range(h)) for c, h in enumerate(heap)))
            return
        c, r = spots[len(told)]
        low = max(told.get((c - 1, r), -1), told.get((c, r - 1), -1)) + 1
        for j in range(low, len(chain)):
            rest = (c - r) % order_of(chain[j])
            if rests.get(j, rest) == rest:
                fill({**told, (c, r): j}, {**rests, j: rest})

    fill({}, {})
    return found


class TestBoxes(unittest.TestCase):
    def test_example(self):
        self.assertEqual((boxes.MAX_BOXED, boxes.MAX_RINGS, boxes.MAX_BOXES), (16, 8, 500))
        self.assertEqual(
            [
                greatest_boxes(((2, 1),) * 3, (2, 2)), len(greatest_boxes(THREES, (2, 2))),
                size_of(THREES, (None, 2, None, 1)),
            ],
            [((0, 1, 0),), 2, 9],
        )

    def test_what_is_in(self):
        rng = random.Random(1)
        for _ in range(15):
            chain = random_chain(rng, 3, 3)
            tuples = all_places(chain)
            rows = all_boxes(chain)
            members = {row: {places for places in tuples if is_in_box(chain, row, places)} for row in rows}
            for one in rows:
                self.assertIs(is_box(chain, one), True)
                self.assertEqual(size_of(chain, one), len(members[one]))
                self.assertTrue(members[one])
                for other in rows:
                    self.assertIs(holds_box(chain, one, other), members[other] <= members[one])
                    both = meeting(chain, one, other)
                    self.assertEqual(members[both] if both is not None else set(), members[one] & members[other])
        self.assertEqual(size_of(((60, 1),) * 12, (None,) * 12), 60 ** 12)
        self.assertEqual(size_of(TWELVE, (0,) * 12), 1)

    def test_judges(self):
        right = all_boxes(PAIR)
        self.assertTrue(any(repr(value) == repr(row) for value in PILE for row in right))
        check_judge(self, is_box, (PAIR,), right)
        for value in NO_BOXES:
            self.assertIs(is_box(PAIR, value), False, value)
        check_judge(self, is_in_box, (PAIR, (None, 3)), [(0, 3), (1, 3), (2, 3)])
        check_judge(self, is_in_box, (PAIR, (2, 2)), [(2, 2)])
        for value in ((None, 3), [0, 3], (0, 2), (3, 3), (0, 3, 3), (False, 3), (0,), None):
            self.assertIs(is_in_box(PAIR, (None, 3), value), False)

    def test_wrong(self):
        check_wrong(self, is_box, (PAIR, None), ("chain", None))
        check_wrong(self, is_in_box, (PAIR, (None, 1), None), ("chain", "box", None))
        check_wrong(self, size_of, (PAIR, (None, 1)), ("chain", "box"))
        check_wrong(self, holds_box, (PAIR, (None, 1), (0, None)), ("chain", "box", "box"))
        check_wrong(self, meeting, (PAIR, (None, 1), (0, None)), ("chain", "box", "box"))
        check_wrong(self, box_of, (PAIR, (1, 1), ((0,), (1,))), ("chain", "heap", "filling"))
        check_wrong(self, does_fill, (PAIR, (1,), (None, 0)), ("chain", "heap", "box"))
        check_wrong(self, left_out, (PAIR, (1,), (None, 0)), ("chain", "heap", "box"))
        check_wrong(self, greatest_boxes, (PAIR, (1,)), ("chain", "heap"))
        check_wrong(self, boxes_with, (PAIR, (1,), (0, 0)), ("chain", "heap", "places"))


class TestFilled(unittest.TestCase):
    def test_by_all_tuples(self):
        rng = random.Random(2)
        some = 0
        for _ in range(60):
            chain, heap = random_chain(rng, 4, 4), heap_within(rng, 3, 3, 9)
            held = {places: is_held(heap_of(chain, places), heap) for places in all_places(chain)}
            filling = []
            for row in all_boxes(chain):
                wished = all(held[places] for places in held if is_in_box(chain, row, places))
                self.assertIs(does_fill(chain, heap, row), wished)
                out = left_out(chain, heap, row)
                if wished:
                    self.assertIsNone(out)
                    filling.append(row)
                else:
                    self.assertTrue(is_in_box(chain, row, out) and not held[out])
            greatest = in_order(
                row for row in filling if not any(other != row and holds_box(chain, other, row) for other in filling)
            )
            self.assertEqual(greatest_boxes(chain, heap), greatest)
            some += len(greatest) > 1
            for places in held:
                told = boxes_with(chain, heap, places)
                self.assertEqual(bool(told), held[places])
                self.assertEqual(told, tuple(row for row in greatest if is_in_box(chain, row, places)))
        self.assertGreater(some, 10)

    def test_great_heaps(self):
        rng = random.Random(3)
        filled = 0
        for _ in range(150):
            chain = random_chain(rng, 12, rng.choice((2, 3, 5)))
            whole = heap_of(chain, random_places(rng, chain))
            heap = tuple(sorted((min(h, rng.randint(1, 7)) for h in whole[:6]), reverse=True))
            row = random_box(rng, chain, rng.choice((0, 0.1, 0.5, 1)))
            out = left_out(chain, heap, row)
            self.assertIs(does_fill(chain, heap, row), out is None)
            if out is not None:
                self.assertIs(is_in_box(chain, row, out), True)
                self.assertIs(is_held(heap_of(chain, out), heap), False)
            else:
                filled += 1
                for _ in range(5):
                    places = tuple(rng.randrange(n) if p is None else p for p, (n, _) in zip(row, chain))
                    self.assertIs(is_held(heap_of(chain, places), heap), True)
        self.assertGreater(filled, 10)

    def test_all_or_nothing_told(self):
        self.assertIs(does_fill(PAIR, (), (None, None)), True)
        self.assertIsNone(left_out(PAIR, (), (None, None)))
        self.assertIs(does_fill(PAIR, (1,), (None, None)), False)
        self.assertEqual(heap_of(PAIR, left_out(PAIR, (1,), (None, None))), ())
        self.assertIs(does_fill(PAIR, (1,), (0, None)), True)
        self.assertIs(does_fill(PAIR, (1,), (None, 0)), True)
        self.assertIs(does_fill(PAIR, (1,), (1, 1)), False)
        self.assertEqual(left_out(PAIR, (1,), (1, 1)), (1, 1))
        # All rings of order 2, no mute place: some tuple leaves each heap out still.
        twos = ((2, 1),) * 6
        self.assertIsNone(left_out(twos, (2, 1), (0, None, 1, None, None, None)))
        self.assertIs(is_held(heap_of(twos, left_out(twos, (2, 1), (0, None, 0, None, None, None))), (2, 1)), False)
        self.assertIs(is_held(heap_of(twos, left_out(twos, (2, 1), (None,) * 6)), (2, 1)), False)

    def test_box_of(self):
        rng = random.Random(4)
        for _ in range(60):
            chain = random_chain(rng, 12, rng.choice((2, 3, 6)))
            places = random_places(rng, chain)
            heap = tuple(sorted((min(h, 6) for h in heap_of(chain, places)[:6]), reverse=True))
            value = fitting(chain, heap, places)
            row = box_of(chain, heap, value)
            used = {j for column in value for j in column}
            self.assertEqual(row, tuple(place if j in used else None for j, place in enumerate(places)))
            self.assertIs(does_fill(chain, heap, row), True)
            self.assertIs(is_in_box(chain, row, places), True)
        self.assertEqual(box_of(PAIR, (), ()), (None, None))
        self.assertEqual(box_of(TRIO, (1, 1), ((1,), (2,))), (None, 0, 3))
        self.assertEqual(box_of(TRIO, (2,), ((1, 2),)), (None, 0, 4))

    def test_too_many_squares(self):
        for heap in ((43,), (60,) * 60):
            for value in NO_BOXES:
                self.assertEqual(raised(self, TooMany, does_fill, PAIR, heap, value).limit, 42)
                self.assertEqual(raised(self, TooMany, left_out, PAIR, heap, value).limit, 42)
            for value in NO_FILLINGS:
                self.assertEqual(raised(self, TooMany, box_of, PAIR, heap, value).limit, 42)
        raised(self, InvalidBox, does_fill, PAIR, (42,), None)
        raised(self, InvalidFilling, box_of, PAIR, (42,), None)
        self.assertIs(does_fill(PAIR, (6,) * 7, (0, 0)), False)


class TestGreatest(unittest.TestCase):
    def test_named_by_fillings(self):
        rng = random.Random(5)
        unlike = 0
        for _ in range(80):
            chain, heap = random_chain(rng, 6, rng.choice((2, 3, 4))), heap_within(rng, 4, 4, 8)
            greatest = greatest_boxes(chain, heap)
            named = {box_of(chain, heap, value) for value in fillings_of(chain, heap)}
            self.assertTrue(set(greatest) <= named)
            # Each box that a filling names lies in a greatest one, and fills the heap.
            for row in named:
                self.assertIs(does_fill(chain, heap, row), True)
                self.assertTrue(any(holds_box(chain, one, row) for one in greatest))
            told = [sum(place is not None for place in row) for row in greatest]
            self.assertEqual(min(told) if told else None, fewest_letters(chain, heap))
            unlike += len(set(told)) > 1
            for one in greatest:
                self.assertEqual(all(place is not None for place in one), size_of(chain, one) == 1)
                self.assertFalse(any(one != other and holds_box(chain, other, one) for other in greatest))
            self.assertEqual(greatest, in_order(set(greatest)))
        self.assertGreater(unlike, 0)

    def test_rich_classes_lie_in_boxes(self):
        chain = ((3, 1), (4, 2), (2, 1), (3, 2), (5, 1))
        for degree, k in ((2, 0), (3, 1), (4, 1), (5, 2)):
            heap = (len(chain) - degree + k,) * (k + 1)
            greatest = greatest_boxes(chain, heap)
            for places in all_places(chain):
                rich = richness(chain, plain_deal(chain, degree, places)) >= k
                self.assertIs(any(is_in_box(chain, row, places) for row in greatest), rich)

    def test_edges(self):
        self.assertEqual(greatest_boxes(PAIR, ()), ((None, None),))
        self.assertEqual(boxes_with(PAIR, (), (2, 3)), ((None, None),))
        self.assertEqual(greatest_boxes(PAIR, (1,)), ((None, 0), (0, None)))
        self.assertEqual(greatest_boxes(PAIR, (3,)), ())
        self.assertEqual(boxes_with(PAIR, (1,), (1, 1)), ())
        self.assertEqual(boxes_with(PAIR, (1,), (0, 0)), ((None, 0), (0, None)))
        eight = ((2, 1),) * 8
        self.assertEqual(len(greatest_boxes(eight, (4, 4, 4, 4))), 8)
        self.assertIsNotNone(some_filling(eight, (4, 4, 4, 4)))
        self.assertEqual(greatest_boxes(eight[:7], (4, 4, 4, 4)), ((0, 1) * 3 + (0,),))
        self.assertEqual(greatest_boxes(PAIR, (16,)), ())

    def test_limits(self):
        nine = ((2, 1),) * 9
        self.assertEqual(raised(self, TooMany, greatest_boxes, nine, (1,)).limit, 8)
        self.assertEqual(raised(self, TooMany, greatest_boxes, nine, (17,)).limit, 8)
        self.assertEqual(raised(self, TooMany, greatest_boxes, nine[:8], (17,)).limit, 16)
        self.assertEqual(raised(self, TooMany, greatest_boxes, PAIR, (43,)).limit, 16)
        self.assertEqual(raised(self, TooMany, greatest_boxes, nine, (60,) * 60).limit, 8)
        self.assertEqual(raised(self, TooMany, boxes_with, nine, (17,), (0,) * 9).limit, 8)
        self.assertEqual(raised(self, TooMany, boxes_with, PAIR, (4, 4, 4, 4, 1), (0, 0)).limit, 16)
        for value in NO_PLACES:
            raised(self, InvalidTuple, boxes_with, PAIR, (17,), value)
        for value in NO_HEAPS:
            raised(self, InvalidHeap, greatest_boxes, nine, value)
        raised(self, InvalidTuple, boxes_with, nine, (17,), (0,) * 8 + (LONG,))

    def test_many_boxes(self):
        chain = ((5, 1),) * 8
        told = greatest_boxes(chain, (3, 2, 1))
        self.assertEqual(len(told), 28 * 16)
        self.assertEqual(told, in_order(set(told)))
        places = tuple(0 if place is None else place for place in told[9])
        wished = tuple(row for row in told if is_in_box(chain, row, places))
        self.assertEqual(boxes_with(chain, (3, 2, 1), places), wished)
        # No chain of eight rings that was tried has more than 500 boxes: so the limit is set lower here.
        with mock.patch.object(boxes, "MAX_BOXES", 447):
            self.assertEqual(raised(self, TooMany, greatest_boxes, chain, (3, 2, 1)).limit, 447)
            self.assertEqual(raised(self, TooMany, boxes_with, chain, (3, 2, 1), (0,) * 8).limit, 447)
        with mock.patch.object(boxes, "MAX_BOXES", 448):
            self.assertEqual(greatest_boxes(chain, (3, 2, 1)), told)

    def test_not_true(self):
        # Two greatest boxes that do not meet.
        one, other = greatest_boxes(THREES, (2, 2))
        self.assertIsNone(meeting(THREES, one, other))
        mixed = ((2, 1), (3, 1), (2, 1), (3, 1), (2, 1))
        told = {sum(place is not None for place in row) for row in greatest_boxes(mixed, (2, 2))}
        self.assertEqual(told, {3, 4})


if __name__ == "__main__":
    unittest.main()
