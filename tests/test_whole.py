"""What the document promises over all stages: answers held against each other."""

import random
import unittest

from ringstairs.core.cores import is_core
from ringstairs.core.levels import level_richness, levels_of
from ringstairs.core.words import least_cores, made_by
from ringstairs.ends.turned import backward, least_class, rest_of
from ringstairs.ends.wishes import classes_meeting, gap_filling, gap_wishes, meets
from ringstairs.fill.boxes import greatest_boxes, is_in_box
from ringstairs.fill.counts import classes_at_least, classes_by_richness
from ringstairs.fill.fillings import does_fit, fitting, some_filling, shortage
from ringstairs.heap.heaps import box, heap_of, heaps_along, is_held
from ringstairs.house.shelf import Shelf, decide, edited, is_paper
from ringstairs.join.pieces import Piece, chain_table, joined_table, joined_web
from ringstairs.link.chains import added, at_ends, joined_chains, less, order_of
from ringstairs.link.classes import class_of, class_with_ends, plain_deal
from ringstairs.rich.richness import canonical, filling_of, is_filling_of, is_taking, richness, taking
from ringstairs.turns.ends import (
    are_one_map, end_table, gaps_at_left, gaps_at_right, index_of, ring_letters, value_at, window,
)
from ringstairs.turns.greedy import greedy, greedily_made
from ringstairs.turns.rounds import letter, plain_shift, widened
from ringstairs.webs.fire import web_deal, web_of, web_richness
from tests.samples import all_places, random_chain, random_deal, random_piece, random_places


def class_map(chain, degree, places):
    """The map of a class as a round map, put together of its letters; all orders one divisor of 60."""
    whole = plain_shift(60, degree - len(chain))
    for told in reversed(ring_letters(chain, places)):
        if told is not None:
            whole = greedy(whole, widened(letter(*told), 60))
    return whole


class TestMainPromise(unittest.TestCase):
    def test_richness_and_heaps(self):
        rng = random.Random(1)
        for _ in range(150):
            chain = random_chain(rng, 10, 9)
            degree, places = rng.randint(-2, 2 * len(chain) + 1), random_places(rng, chain)
            deal = plain_deal(chain, degree, places)
            rich = richness(chain, deal)
            heap = heap_of(chain, places)
            for k in range(5):
                held = is_held(heap, box(k + 1, len(chain) - degree + k))
                self.assertIs(rich >= k, held)
                filling, paper = filling_of(chain, deal, k), taking(chain, deal, k)
                self.assertEqual((filling is None, paper is None), (not held, held))
                if held:
                    self.assertIs(is_filling_of(chain, deal, k, filling), True)
                else:
                    self.assertIs(is_taking(chain, deal, k, paper), True)
                    self.assertEqual(richness(chain, less(chain, deal, paper)), -1)
                if (k + 1) * (len(chain) - degree + k) <= 42:
                    whole = box(k + 1, len(chain) - degree + k)
                    told = fitting(chain, whole, places)
                    self.assertIs(told is not None, held)
                    if held:
                        self.assertIs(does_fit(chain, whole, places, told), True)

    def test_by_the_definition(self):
        rng = random.Random(2)
        done = 0
        while done < 60:
            chain = random_chain(rng, 3, 4)
            deal = random_deal(rng, chain, 2)
            if sum(n for n, _ in chain) - len(chain) + 1 > 8:
                continue
            done += 1
            told = web_richness(web_of(chain), web_deal(chain, deal), 4)
            self.assertEqual(told, min(4, richness(chain, deal)))

    def test_maps(self):
        rng = random.Random(3)
        for _ in range(100):
            chain = tuple(rng.choice(((2, 1), (3, 1), (4, 1), (4, 2), (5, 2), (6, 5), (6, 2), (10, 3), (12, 5), (20, 8)))
                          for _ in range(rng.randint(1, 8)))
            degree, places = rng.randint(-2, 2 * len(chain)), random_places(rng, chain)
            whole = class_map(chain, degree, places)
            self.assertEqual([whole(i) for i in range(-70, 71)], list(window(chain, degree, places, -70, 70)))
            deal = plain_deal(chain, degree, places)
            for _ in range(5):
                a, b = rng.randint(-9, 9), rng.randint(-9, 9)
                rich = richness(chain, added(chain, deal, at_ends(chain, a, b)))
                self.assertEqual(rich + 1, whole.counted(a, b))
                self.assertEqual(rich + 1, end_table(chain, degree, places, a, b))
                self.assertEqual(rich + 1, chain_table(chain, degree, places, a, b))
                one = class_with_ends(chain, (degree, places), a, b)
                self.assertEqual(rich, richness(chain, plain_deal(chain, *one)))
            index = rng.randint(-99, 99)
            self.assertEqual(index_of(chain, degree, places, value_at(chain, degree, places, index)), index)

    def test_letters_alone(self):
        # Chains of one order: the map is the greedy product of a word.
        rng = random.Random(4)
        for _ in range(60):
            k = rng.randint(2, 9)
            chain = ((k, 1),) * rng.randint(1, 9)
            degree, places = rng.randint(0, 20), random_places(rng, chain)
            letters = tuple(c for _, c in ring_letters(chain, places))
            whole = greedily_made(k, (degree - len(chain), letters[::-1]))
            self.assertEqual([whole(i) for i in range(k)], list(window(chain, degree, places, 0, k - 1)))

    def test_joined_chains(self):
        rng = random.Random(5)
        for _ in range(60):
            one, other = random_chain(rng, 4, 6), random_chain(rng, 4, 6)
            deal, deal2 = random_deal(rng, one, 2), random_deal(rng, other, 2)
            whole = joined_chains(one, other)
            both = added(whole, deal, {(j + len(one), p): v for (j, p), v in deal2.items()})
            a, b = rng.randint(-5, 5), rng.randint(-5, 5)
            first, second, joined = class_of(one, deal), class_of(other, deal2), class_of(whole, both)
            sums = [
                end_table(one, *first, a, at) + end_table(other, *second, -at - 1, b) for at in range(-60, 61)]
            self.assertEqual(end_table(whole, *joined, a, b), min(sums))

    def test_joined_webs(self):
        rng = random.Random(6)
        for _ in range(25):
            pieces = tuple(random_piece(rng, 3, 4, 1) for _ in range(2))
            a, b = rng.randint(-2, 2), rng.randint(-2, 2)
            sums = [pieces[0].table_at(a, at) + pieces[1].table_at(-at - 1, b) for at in range(-40, 41)]
            self.assertEqual(joined_table(pieces, a, b), min(sums))
            web, left, right, deal = joined_web(pieces)
            self.assertEqual(Piece(web, left, right, deal).table_at(a, b), min(sums))

    def test_boxes_and_counts(self):
        rng = random.Random(7)
        for _ in range(40):
            chain = random_chain(rng, 4, 4)
            degree, k = rng.randint(-1, 2 * len(chain)), rng.randint(0, 3)
            rich = [x for x in all_places(chain) if richness(chain, plain_deal(chain, degree, x)) >= k]
            self.assertEqual(classes_at_least(chain, degree, k), len(rich))
            self.assertEqual(sum(many for r, many in classes_by_richness(chain, degree).items() if r >= k), len(rich))
            if k < 40 and -100 <= degree <= 100:
                self.assertEqual(classes_meeting(chain, degree, ((0, 0, k + 1),)), len(rich))
            whole = box(k + 1, len(chain) - degree + k)
            if sum(whole) <= 16:
                boxes = greatest_boxes(chain, whole)
                for x in all_places(chain):
                    self.assertIs(any(is_in_box(chain, one, x) for one in boxes), x in rich)
                self.assertIs(some_filling(chain, whole) is not None, bool(rich))
                self.assertIs(shortage(chain, whole) is None, bool(rich))
                self.assertIs(decide(chain, {}, ("some", degree, k))[0] if -60 <= degree <= 60 else None, bool(rich))
            self.assertIs(least_class(chain, k)[0] <= degree, bool(rich))

    def test_one_order(self):
        rng = random.Random(8)
        for _ in range(60):
            k = rng.randint(2, 7)
            chain = ((k, 1),) * rng.randint(1, 9)
            deal = random_deal(rng, chain, 2)
            degree, places = class_of(chain, deal)
            heap = heap_of(chain, places)
            self.assertIs(is_core(k, heap), True)
            self.assertEqual(heap, made_by(k, places))
            levels = levels_of(chain, deal)
            for c in range(-4, 5):
                for ends in ((0, c * k), (c * k, 0)):
                    self.assertEqual(
                        level_richness(levels, c), richness(chain, added(chain, deal, at_ends(chain, *ends))))
            for columns, rows in ((1, 2), (2, 2), (3, 1)):
                held = is_held(heap, box(columns, rows))
                self.assertIs(held, any(is_held(heap, core) for core in least_cores(k, columns, rows)))

    def test_not_true(self):
        # A ring exchanged with another one has an effect; richness does not add up.
        self.assertEqual(
            [classes_at_least(chain, 2, 1) for chain in (((3, 1), (2, 1), (3, 1)), ((2, 1), (3, 1), (3, 1)))], [1, 0])
        chain = ((3, 1), (3, 1))
        deals = [plain_deal(chain, d, x) for d in (0, 1, 2) for x in all_places(chain)]
        self.assertTrue(any(
            richness(chain, added(chain, one, other)) != richness(chain, one) + richness(chain, other)
            for one in deals for other in deals if richness(chain, one) >= 0 and richness(chain, other) >= 0))
        # Equal gaps at both ends, but other maps.
        found = {}
        for x in all_places(chain):
            told = (gaps_at_left(chain, 2, x), gaps_at_right(chain, 2, x))
            found.setdefault(told, []).append(x)
        self.assertTrue(any(
            not are_one_map(chain, (2, rows[0]), chain, (2, row)) for rows in found.values() for row in rows))


class TestAcrossStages(unittest.TestCase):
    def test_rings_that_do_nothing(self):
        rng = random.Random(9)
        for _ in range(80):
            chain = random_chain(rng, 8, 7)
            degree, places = rng.randint(-1, 12), random_places(rng, chain)
            at = rng.randint(0, len(chain))
            ring, mute = rng.choice((((4, 2), 1), ((6, 2), 3), ((60, 30), 7), ((9, 6), 4)))
            more, told = chain[:at] + (ring,) + chain[at:], places[:at] + (mute,) + places[at:]
            self.assertEqual(heap_of(more, told), heap_of(chain, places))
            self.assertEqual(ring_letters(more, told)[at], None)
            # With a chip more the map stays, too.
            self.assertEqual(window(more, degree + 1, told, -40, 40), window(chain, degree, places, -40, 40))
            heaps = heaps_along(more, told)
            self.assertEqual(heaps[at], heaps[at + 1])
            # Also a ring whose letter is idle: it exchanges what falls already.
            idle = [x for x in range(order_of(chain[0])) if heap_of(((order_of(chain[0]), 1),), (x,)) == ()]
            for x in idle:
                first = ((order_of(chain[0]), 1),) + chain
                self.assertEqual(heap_of(first, (x,) + places), heap_of(chain, places))

    def test_rests_and_backward(self):
        rng = random.Random(10)
        for _ in range(80):
            chain = random_chain(rng, 8, 7)
            deal = random_deal(rng, chain, 3)
            g, (degree, places) = len(chain), class_of(chain, deal)
            rest = rest_of(chain, deal)
            self.assertEqual(added(chain, rest, deal), canonical(chain))
            self.assertEqual(richness(chain, deal) - richness(chain, rest), degree + 1 - g)
            a, b = rng.randint(-5, 5), rng.randint(-5, 5)
            for one, two in (((a, b), (-a, -b)),):
                self.assertEqual(
                    end_table(chain, degree, places, *one) - end_table(chain, *class_of(chain, rest), *two),
                    degree + a + b + 1 - g)
            turned, moved = backward(chain, deal)
            self.assertEqual(gaps_at_left(chain, degree, places), gaps_at_right(turned, *class_of(turned, moved)))
            left, right = (0, 2, 3), (1, 2, 4)
            if degree > -20:
                self.assertIs(
                    gap_filling(chain, deal, left, right) is None, gap_filling(turned, moved, right, left) is None)
                self.assertIs(meets(chain, deal, gap_wishes(left, right)), meets(turned, moved, gap_wishes(right, left)))

    def test_gaps_and_gaps(self):
        # The gaps of stage 9 are wishes that the class meets; greater ones are not all met.
        rng = random.Random(11)
        met = 0
        for _ in range(80):
            chain = random_chain(rng, 8, 7)
            degree, places = rng.randint(0, 9), random_places(rng, chain)
            left, right = gaps_at_left(chain, degree, places), gaps_at_right(chain, degree, places)
            if not 1 <= len(left) <= 8:
                continue
            deal = plain_deal(chain, degree, places)
            many = len(left)
            # One more chip at an end than a gap makes poorer.
            for i in range(many):
                self.assertIs(meets(chain, deal, ((-left[i], 0, many - i),)), True)
                self.assertIs(meets(chain, deal, ((-left[i] - 1, 0, many - i),)), False)
                self.assertIs(meets(chain, deal, ((0, -right[i], many - i),)), True)
                self.assertIs(meets(chain, deal, ((0, -right[i] - 1, many - i),)), False)
            met += gap_filling(chain, deal, left, tuple(range(many))) is not None
        self.assertTrue(met > 20)

    def test_edits_and_classes(self):
        # A ring turned over, or put in with a mute chip, keeps what it should.
        rng = random.Random(12)
        for _ in range(60):
            chain = random_chain(rng, 6, 6)
            deal = random_deal(rng, chain, 2)
            j = rng.randrange(len(chain))
            more, moved = edited(chain, {"a": deal}, (("turn", j),))
            self.assertEqual(richness(more, moved["a"]), richness(chain, deal))
            at = rng.randint(0, len(chain))
            more, moved = edited(chain, {"a": deal}, (("ring", at, (5, 2)),))
            self.assertTrue(richness(more, moved["a"]) <= richness(chain, deal))
            more, moved = edited(more, moved, (("out", at),))
            self.assertEqual(class_of(more, moved["a"]), class_of(chain, deal))

    def test_claims_and_papers(self):
        rng = random.Random(13)
        for _ in range(30):
            chain = random_chain(rng, 5, 6)
            shelf = Shelf(chain, {"a": random_deal(rng, chain, 2), "b": random_deal(rng, chain, 2)})
            for question in (("rich", "a", 1), ("rich", "b", 0), ("alike", "a", "b"), ("some", len(chain), 1)):
                number = shelf.pin(question)
                _, verdict, paper = shelf.standing(number)
                self.assertEqual((verdict, paper), decide(chain, shelf.deals_at(), question))
                self.assertIs(is_paper(chain, shelf.deals_at(), question, verdict, paper), True)


if __name__ == "__main__":
    unittest.main()
