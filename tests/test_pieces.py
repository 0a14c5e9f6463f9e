import copy
import itertools
import random
import unittest

from ringstairs.errors import InvalidDeal, InvalidNumber, InvalidOperation, Refused, TooMany
from ringstairs.join import pieces
from ringstairs.join.pieces import (
    Piece, chain_cuts, chain_table, cuts, is_chain_cuts, is_cuts, is_odd_place, is_orderly, joined_table, joined_web,
    odd_place, piece_value,
)
from ringstairs.link.chains import added, at_ends, joined_chains
from ringstairs.link.classes import class_of, plain_deal
from ringstairs.rich.richness import richness
from ringstairs.webs.fire import is_web, ring_number, web_deal, web_lendings, web_of, web_richness, without_debt
from tests import naive
from tests.common import (
    EVEN, LONG, MOST, ODD_PIECE, PAIR, PILE, RING_PIECE, SQUARE, TRIANGLE, TRIO, TWELVE, check_judge, check_wrong,
    raised,
)
from tests.samples import random_chain, random_piece, random_places

POINT = Piece((1, ()), 0, 0, (2,))
PATH = Piece((3, ((0, 1), (1, 2))), 0, 2, (0, -1, 0))
FULL = Piece((6, ((0, 1), (0, 2), (0, 3), (1, 4), (1, 5), (2, 4), (2, 5), (3, 4), (3, 5))), 0, 5, (1, 0, -1, 0, 1, 0))
THICK = Piece((2, ((0, 1),) * 9), 0, 1, (5, -5))
LOOP = Piece(TRIANGLE, 1, 1, (0, 0, 0))


def chips_of(piece, a, b):
    chips = list(piece.deal)
    chips[piece.left] += a
    chips[piece.right] += b
    return chips


def ring_piece(ring, chips, place):
    """The ring by itself, with one chip at the place of its tuple and the others at the right door."""
    many, door = ring
    ties = tuple(sorted(tuple(sorted((p, (p + 1) % many))) for p in range(many)))
    deal = [0] * many
    deal[place] += 1
    deal[0] += chips - 1
    return Piece((many, ties), door, 0, tuple(deal))


class TestPiece(unittest.TestCase):
    def test_constants(self):
        told = (pieces.MOST_PIECE_PLACES, pieces.MOST_PIECE_TIES, pieces.MOST_PIECES, pieces.MOST_ENDS)
        self.assertEqual(told, (6, 9, 6, 400))

    def test_properties(self):
        self.assertEqual((ODD_PIECE.web, ODD_PIECE.left, ODD_PIECE.right), (SQUARE, 0, 1))
        self.assertEqual((ODD_PIECE.deal, ODD_PIECE.period), ((0, 1, 1, 0), 7))
        self.assertEqual([piece.period for piece in (POINT, PATH, FULL, THICK, LOOP, RING_PIECE)], [1, 1, 3, 9, 1, 3])
        for name in ("web", "left", "right", "deal", "period"):
            with self.assertRaises(AttributeError):
                setattr(RING_PIECE, name, 0)
            self.assertFalse(callable(getattr(RING_PIECE, name)))

    def test_text(self):
        self.assertEqual(str(ODD_PIECE), "piece of 4 places and 5 ties, 2 chips")
        self.assertEqual(str(POINT), "piece of 1 places and 0 ties, 2 chips")
        self.assertEqual(str(PATH), "piece of 3 places and 2 ties, -1 chips")

    def test_equal(self):
        self.assertEqual(Piece(SQUARE, 0, 1, (0, 1, 1, 0)), ODD_PIECE)
        self.assertFalse(Piece(SQUARE, 0, 1, (0, 1, 1, 0)) != ODD_PIECE)
        asked = Piece(SQUARE, 0, 1, (0, 1, 1, 0))
        asked.table_at(0, 0)
        self.assertEqual(asked, Piece(SQUARE, 0, 1, (0, 1, 1, 0)))
        for other in (
            Piece(SQUARE, 1, 1, (0, 1, 1, 0)), Piece(SQUARE, 0, 0, (0, 1, 1, 0)), Piece(SQUARE, 0, 1, (0, 1, 1, 1)),
            Piece((4, SQUARE[1][:-1]), 0, 1, (0, 1, 1, 0)),
        ) + PILE:
            if other is not ODD_PIECE:
                self.assertIs(asked == other, False)
                self.assertIs(asked != other, True)
        self.assertIn(asked, [1, None, ODD_PIECE])

    def test_cannot_be_iterated_over(self):
        with self.assertRaises(TypeError):
            iter(ODD_PIECE)
        for call in (lambda: ODD_PIECE < ODD_PIECE, lambda: ODD_PIECE + 1, lambda: len(ODD_PIECE)):
            with self.assertRaises(TypeError):
                call()

    def test_methods_are_defined_in_the_class(self):
        for name in ("web", "left", "right", "deal", "period", "table_at", "step_at", "__eq__", "__str__"):
            self.assertIn(name, vars(Piece))

    def test_wrong(self):
        check_wrong(self, Piece, (TRIANGLE, 1, 0, (1, 0, 1)), ("piece web", "spot", "spot", "piece deal"))
        self.assertEqual(raised(self, InvalidNumber, Piece, TRIANGLE, 3, 4, ()).given, 3)
        self.assertEqual(raised(self, InvalidNumber, Piece, TRIANGLE, 2, 4, ()).given, 4)
        raised(self, InvalidDeal, Piece, TRIANGLE, 2, 2, (5, -5, 6))
        Piece(TRIANGLE, 2, 2, (5, -5, 5))
        for call in (ODD_PIECE.table_at, ODD_PIECE.step_at):
            check_wrong(self, call, (0, 3), ("piece end", "piece end"))

    def test_period(self):
        rng = random.Random(1)
        for _ in range(60):
            piece = random_piece(rng, 6, 9, 5)
            size = piece.web[0]
            for many in range(1, piece.period + 1):
                one, other = [0] * size, [0] * size
                one[piece.left] += many
                other[piece.right] += many
                found = naive.find_moves(size, piece.web[1], one, other)
                self.assertEqual(found is not None, many == piece.period)


class TestTable(unittest.TestCase):
    def test_against_the_definition(self):
        rng = random.Random(2)
        for _ in range(25):
            piece = random_piece(rng, 4, 5, 1)
            for _ in range(5):
                total = rng.randint(-1, 3) - sum(piece.deal)
                a = rng.randint(-4, 4)
                chips = chips_of(piece, a, total - a)
                wished = naive.richness(piece.web[0], piece.web[1], chips) + 1
                self.assertEqual(piece.table_at(a, total - a), wished)

    def test_against_web_richness(self):
        rng = random.Random(3)
        for piece in [random_piece(rng, 6, 9, 5) for _ in range(60)] + [FULL, THICK, LOOP, POINT, PATH]:
            for _ in range(15):
                a = rng.randint(-60, 60)
                b = rng.randint(-4, 2 * ring_number(piece.web) + 4) - sum(piece.deal) - a
                told = piece.table_at(a, b)
                if told <= 4:
                    self.assertEqual(told, web_richness(piece.web, tuple(chips_of(piece, a, b)), 4) + 1)
                else:
                    self.assertEqual(web_richness(piece.web, tuple(chips_of(piece, a, b)), 4), 4)

    def test_chips_alone(self):
        for piece in (ODD_PIECE, FULL, THICK, LOOP, POINT, PATH):
            rings = ring_number(piece.web)
            for a, b in itertools.product((-400, -17, 0, 5, 400), repeat=2):
                chips = sum(piece.deal) + a + b
                if chips < 0:
                    self.assertEqual(piece.table_at(a, b), 0)
                if chips > 2 * rings - 2:
                    self.assertEqual(piece.table_at(a, b), chips + 1 - rings)

    def test_period_of_the_table(self):
        rng = random.Random(4)
        for _ in range(40):
            piece = random_piece(rng, 6, 9, 5)
            for _ in range(20):
                a, b = rng.randint(-200, 200), rng.randint(-200, 200)
                b = rng.choice((b, rng.randint(0, 9) - a - sum(piece.deal)))
                m = piece.period
                self.assertEqual(piece.table_at(a, b), piece.table_at(a + m, b - m))
                self.assertEqual(piece.table_at(a, b), piece.table_at(a - m, b + m))

    def test_steps(self):
        rng = random.Random(5)
        for piece in [random_piece(rng, 6, 9, 5) for _ in range(25)] + [ODD_PIECE, FULL, THICK, LOOP, POINT, PATH]:
            rings = ring_number(piece.web)
            for a in range(-8, 8):
                total = 0
                for chips in range(-4, 2 * rings + 5):
                    b = chips - sum(piece.deal) - a
                    step = piece.step_at(a, b)
                    self.assertEqual(
                        step,
                        piece.table_at(a, b) - piece.table_at(a - 1, b) - piece.table_at(a, b - 1)
                        + piece.table_at(a - 1, b - 1),
                    )
                    self.assertIn(step, (-1, 0, 1))
                    if not 0 <= chips <= 2 * rings:
                        self.assertEqual(step, 0)
                    total += step
                self.assertEqual(total, 1)
                b = a
                rows = [piece.step_at(chips - sum(piece.deal) - b, b) for chips in range(-2, 2 * rings + 2)]
                self.assertEqual(sum(rows), 1)

    def test_steps_at_the_edge(self):
        for piece in (ODD_PIECE, FULL, THICK):
            m = piece.period
            for b in range(380, 400 - m):
                self.assertEqual(piece.step_at(-400, b + m), piece.step_at(-400 + m, b))
            self.assertEqual(piece.step_at(-400, -400), 0)
            self.assertEqual(piece.step_at(400, 400), 0)


class TestOrderly(unittest.TestCase):
    def test_told_ones(self):
        self.assertIs(is_orderly(ODD_PIECE), False)
        self.assertIs(is_orderly(LOOP), False)
        for piece in (POINT, PATH, THICK, RING_PIECE):
            self.assertIs(is_orderly(piece), True)
            self.assertIsNone(odd_place(piece))
        self.assertIs(is_odd_place(LOOP, (0, 1)), LOOP.step_at(0, 1) == -1)

    def test_odd_places(self):
        rng = random.Random(6)
        seen = {True: 0, False: 0}
        for piece in [random_piece(rng, 6, 9, 5) for _ in range(150)] + [ODD_PIECE, LOOP]:
            place = odd_place(piece)
            self.assertEqual(place is None, is_orderly(piece))
            seen[place is None] += 1
            if place is not None:
                self.assertEqual(piece.step_at(*place), -1)
                self.assertIs(is_odd_place(piece, place), True)
                m = piece.period
                a, b = place
                self.assertIs(is_odd_place(piece, (a - m, b + m)), True)
                self.assertIs(is_odd_place(piece, (a + 1000 * m, b - 1000 * m)), False)
                self.assertIs(is_odd_place(piece, (a, b + 1)), piece.step_at(a, b + 1) == -1)
        self.assertTrue(min(seen.values()) > 10)

    def test_every_pair_is_judged(self):
        right = [(a, b) for a in range(-9, 9) for b in range(-9, 9) if ODD_PIECE.step_at(a, b) == -1]
        self.assertTrue(len(right) > 2)
        check_judge(self, is_odd_place, (ODD_PIECE,), right)
        for piece in (POINT, RING_PIECE):
            check_judge(self, is_odd_place, (piece,))
        a, b = right[0]
        for value in ([a, b], (a, b, 0), (a,), None, {a: b}, (a + 0.5, b), (str(a), b), (LONG, b)):
            self.assertIs(is_odd_place(ODD_PIECE, value), False)
        far = (401 // 7 * 7 + a, b - 401 // 7 * 7)
        self.assertIs(is_odd_place(ODD_PIECE, far), max(map(abs, far)) <= 400)

    def test_true_is_not_one(self):
        found = 0
        for deal in itertools.product((-1, 0, 1), repeat=4):
            piece = Piece(SQUARE, 0, 1, deal)
            for a, b in itertools.product((0, 1), repeat=2):
                if piece.step_at(a, b) == -1 and 1 in (a, b):
                    found += 1
                    self.assertIs(is_odd_place(piece, (a, b)), True)
                    self.assertIs(is_odd_place(piece, (bool(a), bool(b))), False)
        self.assertGreater(found, 0)

    def test_the_map(self):
        rng = random.Random(7)
        tried = 0
        for piece in [random_piece(rng, 6, 9, 5) for _ in range(60)] + [FULL, THICK, POINT, PATH, RING_PIECE]:
            if not is_orderly(piece):
                self.assertEqual(raised(self, Refused, piece_value, piece, 3).reason, ("odd",))
                continue
            tried += 1
            rings = ring_number(piece.web)
            reach = range(-40, 41)
            values = {i: piece_value(piece, i) for i in reach}
            self.assertEqual(len(set(values.values())), len(values))
            for i in reach:
                self.assertTrue(abs(values[i]) > 400 or piece.step_at(i, -values[i]) == 1)
                self.assertEqual(piece_value(piece, i + piece.period), values[i] + piece.period)
            for a in range(-4, 5, 2):
                for b in (-4, 0, 3):
                    # Below -25 - 2 g - b no value is great enough any more.
                    low = -b - 2 * rings - 31 - a
                    told = sum(1 for i in range(min(low, a) - 2, a + 1) if piece_value(piece, i) >= -b)
                    self.assertEqual(told, piece.table_at(a, b))
        self.assertGreater(tried, 10)

    def test_long_indices(self):
        # On a tree the value is the index and the number of chips.
        self.assertEqual(piece_value(PATH, MOST), MOST - 1)
        self.assertEqual(piece_value(PATH, 2 - MOST), 1 - MOST)
        self.assertEqual(raised(self, TooMany, piece_value, PATH, -MOST).limit, 60)
        self.assertEqual(raised(self, TooMany, piece_value, POINT, MOST - 1).limit, 60)
        self.assertEqual(piece_value(POINT, MOST - 2), MOST)
        self.assertEqual(raised(self, Refused, piece_value, ODD_PIECE, MOST).reason, ("odd",))
        self.assertEqual(raised(self, InvalidNumber, piece_value, ODD_PIECE, LONG).given, LONG)

    def test_wrong(self):
        for call in (is_orderly, odd_place):
            check_wrong(self, call, (POINT,), ("piece",))
        check_wrong(self, is_odd_place, (POINT, None), ("piece", None))
        check_wrong(self, piece_value, (POINT, 3), ("piece", "integer"))


def random_pieces(rng, many, places, ties, most):
    return tuple(random_piece(rng, places, ties, most) for _ in range(rng.randint(1, many)))


class TestJoined(unittest.TestCase):
    def test_one_piece(self):
        self.assertEqual(joined_web((ODD_PIECE,)), (SQUARE, 0, 1, (0, 1, 1, 0)))
        self.assertEqual(cuts((ODD_PIECE,), 3, -3), ())
        self.assertIs(is_cuts((ODD_PIECE,), 3, -3, ()), True)
        self.assertIs(is_cuts((ODD_PIECE,), 3, -3, (0,)), False)
        self.assertEqual(joined_table((ODD_PIECE,), 3, -3), ODD_PIECE.table_at(3, -3))

    def test_numbers_of_places(self):
        # The second piece's places but its left door 0 stand behind those of the first one.
        self.assertEqual(
            joined_web((RING_PIECE, ODD_PIECE)),
            (
                (6, ((0, 1), (0, 2), (0, 3), (0, 4), (1, 2), (3, 5), (4, 5), (4, 5))), 1, 3, (1, 0, 1, 1, 1, 0),
            ),
        )
        last = Piece((3, ((0, 1), (1, 2))), 2, 2, (1, 2, 3))
        self.assertEqual(
            joined_web((PATH, last, POINT)), ((5, ((0, 1), (1, 2), (2, 4), (3, 4))), 0, 2, (0, -1, 5, 1, 2)),
        )
        self.assertEqual(joined_web((POINT,) * 6), ((1, ()), 0, 0, (12,)))

    def test_limits(self):
        six = Piece((6, tuple((p, p + 1) for p in range(5))), 0, 5, (0,) * 6)
        two = Piece((2, ((0, 1),)), 0, 1, (0, 0))
        self.assertEqual(joined_web((six, six, two))[0][0], 12)
        self.assertEqual(raised(self, TooMany, joined_web, (six, six, two, two)).limit, 12)
        self.assertEqual(raised(self, TooMany, joined_web, (six, six, six)).limit, 12)
        four = Piece((2, ((0, 1),) * 4), 0, 1, (0, 0))
        self.assertEqual(len(joined_web((THICK,) * 4 + (four,))[0][1]), 40)
        self.assertEqual(raised(self, TooMany, joined_web, (THICK,) * 4 + (four, two)).limit, 40)
        self.assertEqual(raised(self, TooMany, joined_web, (THICK,) * 6).limit, 40)
        self.assertEqual(raised(self, TooMany, joined_web, (FULL,) * 6).limit, 12)
        # The least sums are there also for what cannot be joined to one web.
        self.assertEqual(joined_table((THICK,) * 6, 50, 50), 100 + 1 - 48)
        self.assertIs(is_cuts((FULL,) * 6, 3, 2, cuts((FULL,) * 6, 3, 2)), True)

    def test_against_the_joined_web(self):
        rng = random.Random(8)
        tried = 0
        for _ in range(120):
            row = random_pieces(rng, 4, 4, 6, 2)
            size = sum(piece.web[0] for piece in row) - len(row) + 1
            if size > 12:
                continue
            web, left, right, deal = joined_web(row)
            self.assertTrue(is_web(web))
            self.assertEqual(sum(deal), sum(sum(piece.deal) for piece in row))
            self.assertEqual(ring_number(web), sum(ring_number(piece.web) for piece in row))
            for _ in range(4):
                a = rng.randint(-10, 10)
                b = rng.randint(-1, 2 * ring_number(web)) - sum(deal) - a
                chips = list(deal)
                chips[left] += a
                chips[right] += b
                if abs(b) > 50 or max(map(abs, chips)) > 100:
                    continue
                tried += 1
                told = joined_table(row, a, b)
                self.assertEqual(min(told, 5), web_richness(web, tuple(chips), 4) + 1)
        self.assertGreater(tried, 100)

    def test_against_one_piece(self):
        rng = random.Random(9)
        tried = 0
        for _ in range(200):
            row = random_pieces(rng, 3, 3, 3, 1)
            web, left, right, deal = joined_web(row)
            if web[0] <= 6 and len(web[1]) <= 9 and max(map(abs, deal)) <= 5:
                whole = Piece(web, left, right, deal)
                tried += 1
                for _ in range(6):
                    a, b = rng.randint(-50, 50), rng.randint(-50, 50)
                    b = rng.choice((b, max(-50, min(50, rng.randint(-2, 8) - a))))
                    self.assertEqual(joined_table(row, a, b), whole.table_at(a, b))
        self.assertGreater(tried, 50)

    def test_cuts(self):
        rng = random.Random(10)
        for _ in range(80):
            row = random_pieces(rng, 6, 6, 9, 5)
            for a, b in ((rng.randint(-50, 50), rng.randint(-50, 50)), (50, -50), (-50, -50), (-50, 50), (50, 50)):
                least = joined_table(row, a, b)
                told = cuts(row, a, b)
                self.assertEqual(len(told), len(row) - 1)
                self.assertTrue(all(-400 <= at <= 400 for at in told))
                self.assertEqual(self.sum_of(row, told, a, b), least)
                self.assertIs(is_cuts(row, a, b, told), True)
                if len(row) > 1:
                    at = rng.randrange(len(told))
                    turned = told[:at] + (told[at] + rng.choice((-1, 1, 5)),) + told[at + 1:]
                    same = self.sum_of(row, turned, a, b) == least
                    self.assertTrue(self.sum_of(row, turned, a, b) >= least)
                    self.assertIs(is_cuts(row, a, b, turned), same and max(map(abs, turned)) <= 400)

    def sum_of(self, row, told, a, b):
        total, left = 0, a
        for piece, right in zip(row, tuple(told) + (b,)):
            chips = sum(piece.deal) + left + right
            rings = ring_number(piece.web)
            if max(abs(left), abs(right)) <= 400:
                total += piece.table_at(left, right)
            else:
                self.assertFalse(0 <= chips <= 2 * rings - 2 and abs(left) < 400)
                total += max(0, chips + 1 - rings)
            left = -right - 1
        return total

    def test_all_cuts_are_judged(self):
        rng = random.Random(11)
        several = 0
        for _ in range(20):
            row = (random_piece(rng, 4, 5, 2), random_piece(rng, 4, 5, 2))
            a, b = rng.randint(-6, 6), rng.randint(-6, 6)
            sums = {at: self.sum_of(row, (at,), a, b) for at in range(-399, 400)}
            least = min(sums.values())
            self.assertEqual(joined_table(row, a, b), least)
            for at, total in sums.items():
                self.assertIs(is_cuts(row, a, b, (at,)), total == least)
            several += list(sums.values()).count(least) > 1
        self.assertGreater(several, 0)

    def test_cuts_at_the_edge(self):
        row = (PATH, POINT)
        self.assertEqual(joined_table(row, -50, -50), 0)
        for at in (-400, -399):
            self.assertIs(is_cuts(row, -50, -50, (at,)), self.sum_far(row, at, -50, -50) == 0)
        for at in (-401, 401, True, None, "0", LONG):
            self.assertIs(is_cuts(row, -50, -50, (at,)), False)
        # Chips in all below 0 at both sides: all cuts between are right.
        right = [at for at in range(-400, 401) if self.sum_far(row, at, -50, -50) == 0]
        self.assertTrue(len(right) > 20)
        for at in right:
            self.assertIs(is_cuts(row, -50, -50, (at,)), True)

    def sum_far(self, row, at, a, b):
        one = max(0, sum(row[0].deal) + a + at + 1)
        return one + max(0, sum(row[1].deal) - at - 1 + b + 1)

    def test_judge_of_cuts(self):
        row = (RING_PIECE, ODD_PIECE)
        right = [(at,) for at in range(-20, 21) if is_cuts(row, 0, 0, (at,))]
        self.assertIn(cuts(row, 0, 0), right)
        check_judge(self, is_cuts, (row, 0, 0), right)
        at = right[0][0]
        for value in ([at], at, (at, at), (), None, {0: at}, (str(at),), ((at,),)):
            self.assertIs(is_cuts(row, 0, 0, value), False)

    def test_wrong(self):
        row = (RING_PIECE, ODD_PIECE)
        check_wrong(self, joined_web, (row,), ("pieces",))
        for call in (joined_table, cuts):
            check_wrong(self, call, (row, 1, 50), ("pieces", "joined end", "joined end"))
        check_wrong(self, is_cuts, (row, 1, -50, None), ("pieces", "joined end", "joined end", None))
        raised(self, InvalidOperation, joined_web, ())

    def test_nothing_changes(self):
        row = (RING_PIECE, ODD_PIECE, FULL)
        before = copy.deepcopy(row)
        joined_table(row, 1, 1), cuts(row, 0, 0), joined_web((RING_PIECE, ODD_PIECE))
        self.assertEqual(row, before)
        self.assertEqual([str(piece) for piece in row], [str(piece) for piece in before])
        self.assertEqual(cuts(row, 0, 0), cuts(before, 0, 0))


class TestRings(unittest.TestCase):
    def test_a_ring_by_itself(self):
        for ring in ((2, 1), (3, 1), (5, 3), (6, 4)):
            for place in range(ring[0]):
                piece = ring_piece(ring, 1, place)
                for a in range(-9, 10):
                    for b in range(-9, 10):
                        wished = max(0, 1 + a + b)
                        if 1 + a + b == 0 and (place + a * ring[1]) % ring[0] == 0:
                            wished = 1
                        self.assertEqual(piece.table_at(a, b), wished)
                        self.assertEqual(chain_table((ring,), 1, (place,), a, b), wished)

    def test_against_joined_pieces(self):
        rng = random.Random(12)
        for _ in range(40):
            chain = random_chain(rng, 6, 6)
            places = random_places(rng, chain)
            degree = rng.randint(len(chain) - 2, len(chain) + 2)
            row = tuple(
                ring_piece(ring, 1 if j + 1 < len(chain) else 1 + degree - len(chain), place)
                for j, (ring, place) in enumerate(zip(chain, places))
            )
            for _ in range(4):
                a, b = rng.randint(-9, 9), rng.randint(-9, 9)
                told = chain_table(chain, degree, places, a, b)
                self.assertEqual(told, joined_table(row, a, b))
                self.assertIs(is_cuts(row, a, b, chain_cuts(chain, degree, places, a, b)), True)
                self.assertIs(is_chain_cuts(chain, degree, places, a, b, cuts(row, a, b)), True)

    def test_against_richness(self):
        rng = random.Random(13)
        for _ in range(200):
            chain = random_chain(rng, 12, rng.choice((2, 3, 60)))
            rings = len(chain)
            places = random_places(rng, chain)
            degree = rng.choice((rng.randint(-3, 2 * rings + 2), rng.randint(-10 ** 50, 10 ** 50)))
            a = rng.choice((rng.randint(-5, 5), rng.randint(-10 ** 58, 10 ** 58)))
            b = rng.randint(-2, 2 * rings + 2) - degree - a
            told = chain_table(chain, degree, places, a, b)
            deal = added(chain, plain_deal(chain, degree, places), at_ends(chain, a, b))
            self.assertEqual(told, richness(chain, deal) + 1)
            found = chain_cuts(chain, degree, places, a, b)
            self.assertEqual(len(found), rings - 1)
            self.assertIs(is_chain_cuts(chain, degree, places, a, b, found), True)
            self.assertEqual(self.sum_of(chain, degree, places, a, b, found), told)
            if rings > 1:
                at = rng.randrange(rings - 1)
                turned = found[:at] + (found[at] + rng.choice((-2, -1, 1, 2)),) + found[at + 1:]
                total = self.sum_of(chain, degree, places, a, b, turned)
                self.assertTrue(total >= told)
                self.assertIs(is_chain_cuts(chain, degree, places, a, b, turned), total == told)

    def sum_of(self, chain, degree, places, a, b, found):
        total, left = 0, a
        for j, ((n, s), x, right) in enumerate(zip(chain, places, found + (b,))):
            chips = (1 if j + 1 < len(chain) else 1 + degree - len(chain)) + left + right
            total += 1 if chips == 0 and (x + left * s) % n == 0 else max(0, chips)
            left = -right - 1
        return total

    def test_one_ring(self):
        self.assertEqual(chain_cuts(((5, 2),), 3, (1,), 4, -2), ())
        check_judge(self, is_chain_cuts, (((5, 2),), 3, (1,), 4, -2), [()])

    def test_long_numbers(self):
        self.assertEqual(chain_table(PAIR, MOST, (0, 0), MOST, MOST), 3 * MOST - 1)
        self.assertEqual(chain_table(PAIR, -MOST, (0, 0), -MOST, -MOST), 0)
        self.assertEqual(chain_table(PAIR, 0, (0, 0), MOST, -MOST), chain_table(PAIR, 0, (0, 0), 3, -3))
        self.assertEqual(chain_table(TWELVE, MOST, (0,) * 12, 0, 0), MOST + 1 - 12)

    def test_short_cuts_near_sixty_digits(self):
        # With so many chips at one end just some of the least cuts have sixty digits.
        rng = random.Random(14)
        refused = 0
        for _ in range(150):
            chain = random_chain(rng, 4, 4)
            rings = len(chain)
            places = random_places(rng, chain)
            a = rng.choice((-1, 1)) * (MOST - rng.randint(0, 3))
            degree = rng.randint(-2, 2 * rings + 2)
            b = max(-MOST, min(MOST, rng.randint(-1, 2 * rings + 1) - degree - a))
            told = chain_table(chain, degree, places, a, b)
            near = [
                [t - (j + 1) - a for t in range(-9, 18) if abs(t - (j + 1) - a) < LONG] for j in range(rings - 1)
            ]
            small = self.least(chain, degree, places, a, b, near)
            if small == told:
                found = chain_cuts(chain, degree, places, a, b)
                self.assertIs(is_chain_cuts(chain, degree, places, a, b, found), True)
                self.assertTrue(all(abs(at) < LONG for at in found))
            else:
                refused += 1
                self.assertEqual(raised(self, TooMany, chain_cuts, chain, degree, places, a, b).limit, 60)
        self.assertGreater(refused, 0)

    def least(self, chain, degree, places, a, b, near):
        best = {a: 0}
        for j, ((n, s), x) in enumerate(zip(chain, places)):
            chips = 1 if j + 1 < len(chain) else 1 + degree - len(chain)
            further = {}
            for right in near[j] if j < len(near) else [b]:
                for left, total in best.items():
                    many = chips + left + right
                    cost = 1 if many == 0 and (x + left * s) % n == 0 else max(0, many)
                    old = further.get(-right - 1)
                    further[-right - 1] = total + cost if old is None else min(old, total + cost)
            best = further
        return min(best.values(), default=None)

    def test_judge(self):
        arguments = (PAIR, 2, (2, 3), 0, 0)
        right = [(at,) for at in range(-30, 31) if is_chain_cuts(*arguments, (at,))]
        self.assertIn(chain_cuts(*arguments), right)
        check_judge(self, is_chain_cuts, arguments, right)
        at = right[0][0]
        for value in ([at], at, (at, at), (), None, {0: at}, (LONG,), (-LONG,), ((at,),)):
            self.assertIs(is_chain_cuts(*arguments, value), False)
        self.assertIs(is_chain_cuts(PAIR, -9, (0, 0), 0, -MOST, (-5,)), True)
        self.assertIs(is_chain_cuts(PAIR, -9, (0, 0), 0, -MOST, (-MOST,)), True)
        self.assertIs(is_chain_cuts(PAIR, -9, (0, 0), 0, -MOST, (0,)), False)
        self.assertIs(is_chain_cuts(PAIR, -9, (0, 0), -MOST, -MOST, (MOST - 5,)), True)

    def test_wrong(self):
        kinds = ("chain", "integer", "places", "integer", "integer")
        for call in (chain_table, chain_cuts):
            check_wrong(self, call, (PAIR, 2, (2, 3), 0, 0), kinds)
        check_wrong(self, is_chain_cuts, (PAIR, 2, (2, 3), 0, 0, None), kinds + (None,))

    def test_joined_chains(self):
        joined = joined_chains(PAIR, EVEN)
        deal = {(0, 0): 1, (4, 0): 3}
        degree, places = class_of(joined, deal)
        self.assertEqual(chain_table(joined, degree, places, 0, 0), richness(joined, deal) + 1)
        self.assertEqual(chain_table(TRIO, 3, class_of(TRIO, {(0, 0): 3})[1], 0, 0), richness(TRIO, {(0, 0): 3}) + 1)

    def test_as_a_piece(self):
        # The web of a chain of two rings is a piece itself.
        chain = ((3, 1), (3, 2))
        web = web_of(chain)
        for places in itertools.product(range(3), repeat=2):
            deal = web_deal(chain, plain_deal(chain, 2, places))
            piece = Piece(web, 1, 3, deal)
            self.assertEqual(web_of(chain)[0], 5)
            for a, b in itertools.product(range(-4, 5), repeat=2):
                self.assertEqual(piece.table_at(a, b), chain_table(chain, 2, places, a, b))
            self.assertIs(is_orderly(piece), True)
            self.assertIsNotNone(web_lendings(web, deal, deal))
            self.assertEqual(without_debt(web, deal) is None, piece.table_at(0, 0) == 0)


if __name__ == "__main__":
    unittest.main()
