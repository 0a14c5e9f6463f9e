import random
import unittest
from itertools import combinations, product
from math import gcd

from ringstairs.core import words
from ringstairs.core.cores import charges, core_of_charges, cores, is_core, letters_of
from ringstairs.core.words import (
    core_subword, growing_word, growing_words_count, idle_letters, is_core_subword, is_growing_word, least_cores,
    least_letters, made_by, with_letter,
)
from ringstairs.errors import InvalidHeap, InvalidNumber, InvalidWord, TooMany
from ringstairs.fill.counts import standard_fillings
from ringstairs.heap.heaps import addable, box, grown, heaps_along, is_held, with_square
from tests.common import MOST, NO_CORE_WORDS, NO_CORES, NO_INTEGERS, check_judge, check_wrong, raised
from tests.samples import random_letters, random_places

STAIRS = tuple(range(60, 0, -1))


def slow_letter(k, core, c):
    for diagonal in addable(core):
        if diagonal % k == c:
            core = with_square(core, diagonal)
    return core


def slow_made(k, word):
    """The core that the word makes, and the indices of its idle letters."""
    core, idle = (), []
    for at, c in enumerate(word):
        more = slow_letter(k, core, c)
        idle += [at] if more == core else []
        core = more
    return core, tuple(idle)


class TestLetters(unittest.TestCase):
    def test_example(self):
        self.assertEqual((words.MAX_CORE_WORD, words.MAX_BOX), (200, 16))
        self.assertEqual(
            [
                with_letter(3, (1, 1), 2), made_by(3, (0, 2, 1, 0)), idle_letters(3, (0, 0, 1)),
                growing_word(3, (4, 2)), growing_words_count(3, (3, 1, 1)),
            ],
            [(2, 1, 1), (4, 2), (1,), (0, 2, 1, 0), 2],
        )

    def test_letters(self):
        for k in (2, 3, 4, 7, 60):
            for letters in range(8):
                for core in cores(k, letters):
                    for c in range(k):
                        more = with_letter(k, core, c)
                        self.assertEqual(more, slow_letter(k, core, c))
                        self.assertIs(is_core(k, more), True)
                        self.assertEqual(more, grown(core, (k, 1), c))
                        if more != core:
                            self.assertEqual(letters_of(k, more), letters + 1)
                            self.assertEqual(charges(k, more), self.exchanged(k, charges(k, core), c))

    def exchanged(self, k, told, c):
        row = list(told)
        if c > 0:
            row[k - 1 - c], row[k - c] = row[k - c], row[k - 1 - c]
        else:
            row[0], row[k - 1] = row[k - 1] + 1, row[0] - 1
        return tuple(row)

    def test_words(self):
        rng = random.Random(1)
        for _ in range(150):
            k = rng.randint(2, 9)
            word = random_letters(rng, k, rng.randint(0, 20))
            core, idle = slow_made(k, word)
            self.assertEqual((made_by(k, word), idle_letters(k, word)), (core, idle))
            self.assertEqual(letters_of(k, core), len(word) - len(idle))
            self.assertIs(is_growing_word(k, core, word), not idle)
            kept = tuple(c for at, c in enumerate(word) if at not in idle)
            self.assertIs(is_growing_word(k, core, kept), True)

    def test_as_heaps_of_chains(self):
        rng = random.Random(2)
        for _ in range(60):
            k = rng.randint(2, 8)
            doors = [s for s in range(1, k) if gcd(s, k) == 1]
            chain = tuple((k * t, t * rng.choice(doors)) for t in (rng.randint(1, 3) for _ in range(10)))
            places = random_places(rng, chain)
            core = ()
            for ring, place, heap in zip(chain, places, heaps_along(chain, places)[1:]):
                lets = [c for c in range(k) if (c * ring[1] - place) % ring[0] == 0]
                core = with_letter(k, core, lets[0]) if lets else core
                self.assertEqual(core, heap)
            for columns in range(1, 4):
                for rows in range(1, 4):
                    least = least_cores(k, columns, rows)
                    self.assertIs(is_held(core, box(columns, rows)), any(is_held(core, one) for one in least))

    def test_too_many_letters(self):
        up = tuple(at % 2 for at in range(30))
        self.assertEqual(made_by(2, up), tuple(range(30, 0, -1)))
        self.assertEqual(idle_letters(2, up + (1,) * 170), tuple(range(30, 200)))
        self.assertEqual(made_by(2, up + (1,) * 170), tuple(range(30, 0, -1)))
        for call in (made_by, idle_letters):
            self.assertEqual(raised(self, TooMany, call, 2, up + (0,)).limit, 30)
            self.assertEqual(raised(self, TooMany, call, 2, up + (1,) * 169 + (0,)).limit, 30)
            raised(self, InvalidWord, call, 2, up + (1,) * 171)
            raised(self, InvalidWord, call, 2, up + (0, 2))
        core = made_by(2, up)
        self.assertEqual(with_letter(2, core, 1), core)
        self.assertEqual(raised(self, TooMany, with_letter, 2, core, 0).limit, 30)
        for letter in (0, 1):
            self.assertEqual(raised(self, TooMany, with_letter, 2, STAIRS, letter).limit, 30)
        self.assertEqual(raised(self, InvalidNumber, with_letter, 2, STAIRS, 2).given, 2)
        self.assertEqual(with_letter(60, (29,), 31), (30,))
        self.assertEqual(raised(self, TooMany, with_letter, 60, (30,), 30).limit, 30)
        self.assertEqual(with_letter(60, (30,), 29), (30,))
        self.assertEqual((made_by(60, ()), idle_letters(60, ()), made_by(60, (1,) * 200)), ((), (), ()))

    def test_wrong(self):
        check_wrong(self, with_letter, (3, (1,), 1), ("order", "core", "third"))
        for call in (made_by, idle_letters):
            check_wrong(self, call, (3, (0, 1)), ("order", "core word"))
        for call in (growing_word, growing_words_count):
            check_wrong(self, call, (3, (1,)), ("order", "core"))
        check_wrong(self, is_growing_word, (3, (1,), None), ("order", "core", None))
        check_wrong(self, core_subword, (3, (0, 1), (1,)), ("order", "core word", "core"))
        check_wrong(self, is_core_subword, (3, (0, 1), (1,), None), ("order", "core word", "core", None))
        for call in (least_cores, least_letters):
            check_wrong(self, call, (3, 2, 2), ("order", "least side", "least side"))
        for value in NO_CORE_WORDS:
            raised(self, InvalidWord, core_subword, 3, value, (2, 2))
        for value in NO_CORES:
            raised(self, InvalidHeap, core_subword, 3, (0,) * 5, value)


class TestGrowing(unittest.TestCase):
    def test_words_and_their_number(self):
        rng = random.Random(3)
        for k in (2, 3, 4, 5, 60):
            for letters in range(9):
                every = cores(k, letters)
                for core in rng.sample(every, min(len(every), 12)):
                    word = growing_word(k, core)
                    self.assertEqual((made_by(k, word), idle_letters(k, word), len(word)), (core, (), letters))
                    self.assertIs(is_growing_word(k, core, word), True)

    def test_all_words(self):
        for k, most in ((2, 6), (3, 6), (4, 5)):
            made = {}
            for letters in range(most + 1):
                for word in product(range(k), repeat=letters):
                    core, idle = slow_made(k, word)
                    if not idle:
                        made.setdefault(core, set()).add(word)
            for core, right in made.items():
                self.assertEqual(growing_words_count(k, core), len(right))
                self.assertIn(growing_word(k, core), right)
                for word in product(range(k), repeat=letters_of(k, core)):
                    self.assertIs(is_growing_word(k, core, word), word in right)
                check_judge(self, is_growing_word, (k, core), list(right))

    def test_great_orders(self):
        # If all hooks are below k, words that grow the core are its standard fillings.
        for heap in ((3, 2, 1), (4, 4), (5, 3, 1, 1), (4, 4, 4, 4), (20,), (1,) * 20, (5, 5, 5, 5), ()):
            self.assertEqual(growing_words_count(60, heap), standard_fillings(heap))

    def test_numbers_add_up(self):
        rng = random.Random(4)
        for k in (3, 5, 8):
            for core in rng.sample(cores(k, 12), min(8, len(cores(k, 12)))):
                ahead = [one for one in cores(k, 11) if any(with_letter(k, one, c) == core for c in range(k))]
                self.assertEqual(growing_words_count(k, core), sum(growing_words_count(k, one) for one in ahead))

    def test_turned_words(self):
        word = growing_word(3, (4, 2))
        for value in (
            list(word), word + (0,), word[:-1], (0,) + word, (0, 1, 2, 0), (0, 2, 1, False), (False, 2, 1, 0),
            (0, 2, 1, 3), (0, 2, 1, -3), (0, 2, 1, None), (0, 0, 2, 1, 0), None, (), (0,) * 201, "0210", {0: 0},
        ):
            self.assertIs(is_growing_word(3, (4, 2), value), False)
        self.assertIs(is_growing_word(3, (), ()), True)

    def test_limits(self):
        twenty, thirty = tuple(range(20, 0, -1)), tuple(range(30, 0, -1))
        self.assertEqual(growing_words_count(2, twenty), 1)
        for core in (tuple(range(21, 0, -1)), thirty, (31,) + thirty, STAIRS):
            self.assertEqual(raised(self, TooMany, growing_words_count, 2, core).limit, 20)
        self.assertEqual(growing_word(2, thirty), tuple(at % 2 for at in range(30)))
        for core in ((31,) + thirty, STAIRS):
            self.assertEqual(raised(self, TooMany, growing_word, 2, core).limit, 30)
            self.assertEqual(raised(self, TooMany, is_growing_word, 2, core, None).limit, 30)
        self.assertEqual(len(growing_word(60, (6,) * 5)), 30)
        self.assertEqual(raised(self, TooMany, growing_word, 60, (6,) * 5 + (1,)).limit, 30)
        self.assertEqual(raised(self, TooMany, growing_words_count, 60, (5,) * 4 + (1,)).limit, 20)


class TestSubwords(unittest.TestCase):
    def test_against_all_parts(self):
        rng = random.Random(5)
        seen = {True: 0, False: 0}
        for _ in range(120):
            k = rng.randint(2, 5)
            word = random_letters(rng, k, rng.randint(0, 9))
            core = rng.choice(cores(k, rng.randint(0, 5)))
            right = [
                row for many in range(len(word) + 1) for row in combinations(range(len(word)), many)
                if slow_made(k, [word[at] for at in row]) == (core, ())
            ]
            held = is_held(made_by(k, word), core)
            seen[held] += 1
            self.assertIs(bool(right), held)
            told = core_subword(k, word, core)
            self.assertEqual(told in right if held else told, True if held else None)
            for many in range(len(word) + 1):
                for row in combinations(range(len(word)), many):
                    self.assertIs(is_core_subword(k, word, core, row), row in right)
            check_judge(self, is_core_subword, (k, word, core), right)
        self.assertTrue(min(seen.values()) > 30)

    def test_each_growing_word_does(self):
        rng = random.Random(6)
        for _ in range(60):
            k = rng.randint(2, 6)
            great, small = rng.choice(cores(k, rng.randint(4, 12))), rng.choice(cores(k, rng.randint(0, 6)))
            told = core_subword(k, growing_word(k, great), small)
            self.assertIs(told is not None, is_held(great, small))
            for c in range(k):
                if is_held(great, small):
                    self.assertIs(is_held(with_letter(k, great, c), with_letter(k, small, c)), True)

    def test_turned(self):
        word = (0, 2, 2, 1, 0, 1)
        told = core_subword(3, word, (4, 2))
        self.assertIs(is_core_subword(3, word, (4, 2), told), True)
        self.assertIs(is_core_subword(3, word, (4, 2), (0, 1, 3, 4)), True)
        self.assertIs(is_core_subword(3, word, (4, 2), (0, 2, 3, 4)), True)
        for value in (
            (0, 1, 2, 3, 4), (0, 1, 3), (1, 0, 3, 4), (0, 1, 3, 3, 4), [0, 1, 3, 4], (0, True, 3, 4), (False, 1, 3, 4),
            (0, 1, 3, 6), (0, 1, 3, -2), (-6, 1, 3, 4), (0, 1, 3, 4, 5), None, (), (0, 1, 3, None), (0, 1, 3, MOST),
        ):
            self.assertIs(is_core_subword(3, word, (4, 2), value), False)
        self.assertEqual(core_subword(3, word, ()), ())
        self.assertIs(is_core_subword(3, (), (), ()), True)
        self.assertIsNone(core_subword(3, (), (1,)))

    def test_limits(self):
        up = tuple(at % 2 for at in range(30))
        self.assertEqual(core_subword(2, up, tuple(range(30, 0, -1))), tuple(range(30)))
        self.assertEqual(len(core_subword(2, up + (1,) * 170, tuple(range(30, 0, -1)))), 30)
        # Greater cores have no such tuples; greater words are refused.
        self.assertIsNone(core_subword(2, up, STAIRS))
        self.assertIs(is_core_subword(2, up, STAIRS, tuple(range(30))), False)
        self.assertEqual(raised(self, TooMany, core_subword, 2, up + (0,), (1,)).limit, 30)
        self.assertEqual(raised(self, TooMany, is_core_subword, 2, up + (0,), (1,), None).limit, 30)
        raised(self, InvalidHeap, core_subword, 2, up + (0,), (2,))


class TestLeastCores(unittest.TestCase):
    def test_against_all_cores(self):
        for k in (2, 3, 4, 5, 7):
            every = [core for letters in range(11) for core in cores(k, letters)]
            for columns in range(1, 4):
                for rows in range(1, 4):
                    told = least_cores(k, columns, rows)
                    holding = [core for core in every if is_held(core, box(columns, rows))]
                    least = [
                        core for core in holding
                        if not any(other != core and is_held(core, other) for other in holding)
                    ]
                    self.assertEqual(told, tuple(sorted(least)))
                    fewest = min(letters_of(k, core) for core in told)
                    self.assertEqual(least_letters(k, columns, rows), fewest)
                    for core in told:
                        self.assertTrue(letters_of(k, core) <= columns * rows)
                    for core in holding:
                        self.assertTrue(any(is_held(core, one) for one in told))

    def test_boxes_of_sixteen_squares(self):
        for k in (2, 3, 5, 8, 60):
            for columns, rows in ((4, 4), (16, 1), (1, 16), (8, 2), (2, 8), (5, 3), (3, 5)):
                told = least_cores(k, columns, rows)
                self.assertEqual(told, tuple(sorted(set(told))))
                self.assertEqual(min(letters_of(k, core) for core in told), least_letters(k, columns, rows))
                for core in told:
                    self.assertIs(is_core(k, core), True)
                    self.assertIs(is_held(core, box(columns, rows)), True)
                    self.assertFalse(any(core != other and is_held(core, other) for other in told))
        self.assertEqual(least_cores(60, 4, 4), ((4, 4, 4, 4),))
        self.assertEqual(least_letters(60, 4, 4), 16)
        self.assertEqual(least_cores(2, 4, 4), (tuple(range(7, 0, -1)),))

    def test_limits(self):
        for columns, rows in ((2, 9), (9, 2), (16, 2), (5, 4), (16, 16), (4, 5)):
            for call in (least_cores, least_letters):
                self.assertEqual(raised(self, TooMany, call, 3, columns, rows).limit, 16)
        for value in NO_INTEGERS + (0, 17, -1):
            self.assertIs(raised(self, InvalidNumber, least_cores, 3, 16, value).given, value)
            self.assertIs(raised(self, InvalidNumber, least_letters, 3, value, 17).given, value)

    def test_not_true(self):
        self.assertEqual(least_cores(3, 2, 2), ((2, 2, 1, 1), (4, 2)))
        self.assertTrue(any(
            len({letters_of(k, core) for core in least_cores(k, columns, rows)}) > 1
            for k in (3, 4, 5) for columns in (3, 4) for rows in (3, 4)
        ))
        # A letter that is idle at a core, but not at one that it holds.
        self.assertEqual(with_letter(3, (1,), 0), (1,))
        self.assertEqual(with_letter(3, (), 0), (1,))
        self.assertEqual(core_of_charges(3, (2, -1, -1)), (4, 2))


if __name__ == "__main__":
    unittest.main()
