import random
import unittest

from ringstairs.errors import InvalidNumber, TooMany
from ringstairs.heap import heaps
from ringstairs.heap.heaps import (
    addable, box, common_of, grown, heap_of, heaps_along, is_heap, is_held, removable, squares, turned_over, union_of,
    with_square,
)
from ringstairs.link.chains import does_let, order_of
from ringstairs.link.classes import class_with_ends
from tests.common import (
    EVEN, MOST, NO_HEAPS, NO_INTEGERS, PAIR, PILE, TRIO, TWELVE, check_wrong, raised,
)
from tests.samples import random_chain, random_heap, random_places

GREAT = (60,) * 60


def heap_with(lot):
    """The heap with just these squares, None if they are no heap."""
    for column, row in lot:
        if (column > 0 and (column - 1, row) not in lot) or (row > 0 and (column, row - 1) not in lot):
            return None
    return tuple(sum(1 for c, _ in lot if c == column) for column in range(len({c for c, _ in lot})))


class TestForms(unittest.TestCase):
    def test_example(self):
        self.assertEqual(heaps.MOST_SIDE, 60)
        self.assertEqual(
            [
                box(2, 3), squares((2, 1)), turned_over((3, 1)), addable((2, 1)), removable((2, 2)),
                grown((), (3, 1), 0), grown((1,), (2, 1), 1),
            ],
            [(3, 3), ((0, 0), (0, 1), (1, 0)), (2, 1, 1), (-2, 0, 2), (0,), (1,), (2, 1)],
        )

    def test_is_heap(self):
        for heap in ((), (1,), (3, 3, 1), GREAT, (60,), (1,) * 60):
            self.assertIs(is_heap(heap), True)
        for value in NO_HEAPS + ((60,) * 61, (61,), (61, 60), (2, 3), (0,), (1, True), [2, 1], (3, 2, -1)):
            self.assertIs(is_heap(value), False, value)
        for value in PILE:
            self.assertIs(type(is_heap(value)), bool)

    def test_box(self):
        self.assertEqual([box(1, 1), box(3, 1), box(1, 3), box(60, 60)], [(1,), (1, 1, 1), (3,), GREAT])
        for columns, rows in ((0, 0), (0, 5), (5, 0), (-1, 5), (5, -1), (-MOST, 60), (60, -MOST)):
            self.assertEqual(box(columns, rows), ())
        check_wrong(self, box, (2, 3), ("side", "side"))
        self.assertEqual(raised(self, InvalidNumber, box, 61, 62).given, 61)
        self.assertEqual(raised(self, InvalidNumber, box, -5, 61).given, 61)

    def test_squares(self):
        self.assertEqual(squares(()), ())
        self.assertEqual(len(squares(GREAT)), 3600)
        rng = random.Random(1)
        for _ in range(50):
            heap = random_heap(rng, 60, 60)
            told = squares(heap)
            self.assertEqual(list(told), sorted(set(told)))
            self.assertEqual(heap_with(set(told)), heap)

    def test_wrong(self):
        for call in (squares, turned_over, addable, removable):
            check_wrong(self, call, ((2, 1),), ("heap",))
        for call in (is_held, union_of, common_of):
            check_wrong(self, call, ((2, 1), (1,)), ("heap", "heap"))
        check_wrong(self, with_square, ((2, 1), 0), ("heap", None))
        check_wrong(self, grown, ((2, 1), (3, 1), 2), ("heap", "ring", "spot"))
        for call in (heap_of, heaps_along):
            check_wrong(self, call, (PAIR, (0, 0)), ("chain", "places"))


class TestLots(unittest.TestCase):
    def test_as_lots_of_squares(self):
        rng = random.Random(2)
        for _ in range(200):
            one, other = random_heap(rng, 8, 8), random_heap(rng, 8, 8)
            first, second = set(squares(one)), set(squares(other))
            self.assertEqual(set(squares(union_of(one, other))), first | second)
            self.assertEqual(set(squares(common_of(one, other))), first & second)
            self.assertEqual(set(squares(turned_over(one))), {(row, column) for column, row in first})
            self.assertIs(is_held(one, other), second <= first)
            self.assertIs(is_held(one, common_of(one, other)), True)
            self.assertIs(is_held(union_of(one, other), other), True)
            self.assertEqual(turned_over(turned_over(one)), one)

    def test_edges(self):
        self.assertEqual([turned_over(()), turned_over(GREAT), turned_over((60,))], [(), GREAT, (1,) * 60])
        self.assertEqual([union_of((), (2,)), common_of((), (2,)), common_of((3, 1), (1,))], [(2,), (), (1,)])
        self.assertIs(is_held((), ()), True)
        self.assertIs(is_held((), (1,)), False)
        self.assertIs(is_held((2, 1), (1, 1)), True)
        self.assertIs(is_held((2, 1), (1, 1, 1)), False)
        self.assertIs(is_held((2, 2), (3,)), False)


class TestSquaresMore(unittest.TestCase):
    def test_addable_and_removable(self):
        rng = random.Random(3)
        for _ in range(200):
            heap = random_heap(rng, 7, 7)
            lot = set(squares(heap))
            more, fewer = {}, {}
            for column in range(9):
                for row in range(9):
                    if (column, row) not in lot and heap_with(lot | {(column, row)}) is not None:
                        more[column - row] = heap_with(lot | {(column, row)})
                    if (column, row) in lot and heap_with(lot - {(column, row)}) is not None:
                        fewer[column - row] = heap_with(lot - {(column, row)})
            self.assertEqual(addable(heap), tuple(sorted(more)))
            self.assertEqual(removable(heap), tuple(sorted(fewer)))
            for diagonal in range(-9, 10):
                if diagonal in more:
                    self.assertEqual(with_square(heap, diagonal), more[diagonal])
                    self.assertIn(diagonal, removable(more[diagonal]))
                else:
                    self.assertEqual(raised(self, InvalidNumber, with_square, heap, diagonal).given, diagonal)
            told = addable(heap)
            self.assertTrue(all(b - a >= 2 for a, b in zip(told, told[1:])))

    def test_edges(self):
        self.assertEqual([addable(()), removable(())], [(0,), ()])
        self.assertEqual(with_square((), 0), (1,))
        self.assertEqual([addable(GREAT), removable(GREAT)], [(-60, 60), (0,)])
        for diagonal in (-60, 60):
            self.assertEqual(raised(self, TooMany, with_square, GREAT, diagonal).limit, 60)
        self.assertEqual(raised(self, TooMany, with_square, (60, 59), -60).limit, 60)
        self.assertEqual(with_square((60, 59), -58), (60, 60))
        for value in NO_INTEGERS + (1, -1, 2, 61, MOST):
            self.assertIs(raised(self, InvalidNumber, with_square, (), value).given, value)

    def test_grown(self):
        rng = random.Random(4)
        for _ in range(300):
            heap = random_heap(rng, 7, 7)
            (ring,) = random_chain(rng, 1, rng.choice((3, 60)))
            place = rng.randrange(ring[0])
            wished = heap
            for diagonal in addable(heap):
                if does_let(ring, place, diagonal):
                    wished = with_square(wished, diagonal)
            told = grown(heap, ring, place)
            self.assertEqual(told, wished)
            other = union_of(heap, random_heap(rng, 7, 7))
            self.assertIs(is_held(grown(other, ring, place), told), True)

    def test_grown_edges(self):
        self.assertEqual(grown((2, 1), (2, 1), 0), (3, 2, 1))
        self.assertEqual(grown((2, 1), (2, 1), 1), (2, 1))
        self.assertEqual(grown((2, 1), (4, 2), 1), (2, 1))
        self.assertEqual(grown((2, 1), (4, 2), 3), (2, 1))
        self.assertEqual(raised(self, TooMany, grown, GREAT, (2, 1), 0).limit, 60)
        self.assertEqual(grown(GREAT, (2, 1), 1), GREAT)
        self.assertEqual(raised(self, TooMany, grown, (60,), (60, 1), 0).limit, 60)
        self.assertEqual(grown((60,), (60, 1), 1), (60, 1))
        self.assertEqual(raised(self, InvalidNumber, grown, GREAT, (2, 1), 2).given, 2)


class TestHeapsOfClasses(unittest.TestCase):
    def test_ring_by_ring(self):
        rng = random.Random(5)
        for _ in range(200):
            chain = random_chain(rng, 12, rng.choice((2, 5, 60)))
            places = random_places(rng, chain)
            wished = [()]
            for ring, place in zip(chain, places):
                wished.append(grown(wished[-1], ring, place))
            self.assertEqual(heaps_along(chain, places), tuple(wished))
            self.assertEqual(heap_of(chain, places), wished[-1])
            heap = wished[-1]
            self.assertTrue(len(heap) <= len(chain) and max(heap + (0,)) <= len(chain))

    def test_told_ones(self):
        self.assertEqual(heaps_along(EVEN, (0, 1, 0, 1)), ((), (1,), (2, 1), (3, 2, 1), (4, 3, 2, 1)))
        self.assertEqual(heaps_along(EVEN, (1, 1, 0, 0)), ((), (), (), (1,), (1,)))
        self.assertEqual(heap_of(((4, 2),), (1,)), ())
        self.assertEqual(heap_of(PAIR, (0, 3)), (2,))
        self.assertEqual(heap_of(PAIR, (0, 1)), (1, 1))
        self.assertEqual(len(heaps_along(TWELVE, (0,) * 12)), 13)

    def test_what_grows_with_some_left_out_is_held(self):
        rng = random.Random(6)
        for _ in range(200):
            chain = random_chain(rng, 12, 4)
            places = random_places(rng, chain)
            heap = ()
            for ring, place in zip(chain, places):
                for diagonal in addable(heap):
                    if does_let(ring, place, diagonal) and rng.random() < 0.7:
                        heap = with_square(heap, diagonal)
            self.assertIs(is_held(heap_of(chain, places), heap), True)

    def test_chips_at_the_left_end_move_diagonals(self):
        rng = random.Random(7)
        for _ in range(100):
            chain = random_chain(rng, 6, 9)
            places = random_places(rng, chain)
            a = rng.randint(-20, 20)
            _, moved = class_with_ends(chain, (0, places), a, 0)
            for ring, old, new in zip(chain, places, moved):
                for c in range(order_of(ring)):
                    self.assertIs(does_let(ring, new, c + a), does_let(ring, old, c))
        self.assertEqual(heap_of(TRIO, (0, 0, 0)), (1,))


if __name__ == "__main__":
    unittest.main()
