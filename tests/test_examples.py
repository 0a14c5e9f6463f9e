"""Every example of the document, as it stands there."""

import doctest
import importlib
import unittest

from tests.common import EVEN, PAIR, TRIO
from tests.test_interface import LISTED

EXAMPLES = """
>>> [order_of((4, 2)), order_of((7, 3)), left_end(TRIO), right_end(TRIO), len(places_of(TRIO))]
[2, 7, (0, 1), (2, 0), 14]

>>> [class_of(PAIR, {(0, 0): 1}), class_of(PAIR, {(1, 2): 3}), plain_deal(PAIR, 2, (2, 3)), are_alike(PAIR, {(0, 1): 1, (0, 2): 1}, {(0, 0): 2})]
[(1, (0, 0)), (3, (0, 1)), {(0, 2): 1, (1, 3): 1}, True]

>>> TRIANGLE = (3, ((0, 1), (0, 2), (1, 2)))
>>> [reduced(TRIANGLE, 0, (0, 2, -1)), without_debt(TRIANGLE, (0, 1, -1)), web_richness(TRIANGLE, (1, 1, 0), 4), ring_number(TRIANGLE)]
[(1, 0, 0), None, 1, 1]

>>> [box(2, 3), squares((2, 1)), turned_over((3, 1)), addable((2, 1)), removable((2, 2)), grown((), (3, 1), 0), grown((1,), (2, 1), 1)]
[(3, 3), ((0, 0), (0, 1), (1, 0)), (2, 1, 1), (-2, 0, 2), (0,), (1,), (2, 1)]

>>> CHAIN = ((4, 1), (4, 2), (3, 1))
>>> [richness(CHAIN, {(2, 0): 2}), richness(CHAIN, canonical(CHAIN)), canonical(CHAIN), filling_of(CHAIN, {(2, 0): 7}, 4)]
[0, 2, {(0, 0): 2, (1, 0): 2}, ()]

>>> p = Round((3, 1, 2))
>>> [p(4), p.shift, p.falls, (~p).told_values, (p * p)(0), p.counted(0, 2), p.second(0, -3), str(letter(3, 2)), letter(3, 2).told_values]
[4, 1, 2, (-3, 1, 2), 6, 4, 1, 'round of 3, shift 0, 1 falls', (-1, 1, 3)]

>>> A, B, C = letter(3, 0), letter(3, 1), letter(3, 2)
>>> [greedy(A, A) == A, greedy(greedy(A, B), A).told_values, made_of(3, (0, (0, 1, 0, 1))).falls, greedily_made(3, (1, (0, 1, 0, 1))).told_values]
[True, (2, 1, 0), 2, (3, 2, 1)]

>>> [ring_letters(TRIO, (0, 2, 4)), window(PAIR, 2, (2, 3), -3, 3), value_at(PAIR, 2, (2, 3), 12), index_of(PAIR, 2, (2, 3), 0)]
[((5, 0), (2, 1), (7, 1)), (-2, -1, -3, 0, 2, 1, 3), 12, 0]

>>> TWOS = ((2, 1), (2, 1), (2, 1))
>>> [is_filling(TWOS, (2, 2), ((0, 1), (1, 2))), fewest_letters(TWOS, (2, 2)), fillings_count(TWOS, (2, 2)), some_filling(((3, 1),) * 3, (2, 2))]
[True, 3, 1, None]

>>> THREES = ((3, 1),) * 4
>>> [greatest_boxes(((2, 1),) * 3, (2, 2)), len(greatest_boxes(THREES, (2, 2))), size_of(THREES, (None, 2, None, 1))]
[((0, 1, 0),), 2, 9]

>>> [classes_by_heap(PAIR, 1, 1), classes_at_least(PAIR, 1, 0), classes_by_richness(EVEN, 2), classes_at_least(TRIO, 3, 1)]
[{(): 6, (1,): 6}, 6, {-1: 5, 0: 10, 1: 1}, 14]

>>> [is_core(3, (4, 2)), is_core(3, (2, 2)), hook((4, 2), (0, 1)), charges(3, (4, 2)), letters_of(3, (4, 2)), bounded_parts(3, (2, 1, 1))]
[True, False, 4, (2, -1, -1), 4, (1, 1, 1)]

>>> [with_letter(3, (1, 1), 2), made_by(3, (0, 2, 1, 0)), idle_letters(3, (0, 0, 1)), growing_word(3, (4, 2)), growing_words_count(3, (3, 1, 1))]
[(2, 1, 1), (4, 2), (1,), (0, 2, 1, 0), 2]

>>> THREE = ((3, 1), (3, 1), (3, 2), (6, 2))
>>> [distance((-2, 0, 1)), level_richness((-2, 0, 1), 1), can_be_met(4, (-2, 0, 1)), core_of_levels((-2, 0, 1)), are_above((-2, 0, 1), (-1, -1, 1))]
[3, 4, True, (2, 1, 1), True]

>>> [gap_wishes((0, 2), (0, 1)), gap_rows(EVEN, 2, (0, 2), (0, 1)), gap_filling(EVEN, {(3, 0): 2}, (0, 2), (0, 1))]
[((0, 0, 2), (0, -1, 1), (-2, 0, 1)), ((0, 3), (-1, 3)), ((0, 1, 2), (0, 1, 2, 3))]

>>> [rest_of(PAIR, {(0, 1): 3}), backward(PAIR, {(0, 2): 1, (1, 3): 2}), flipped(TRIO, {(1, 1): 1, (1, 0): 2}, 1)]
[{(0, 0): 2, (0, 1): -3}, (((4, 1), (3, 1)), {(0, 2): 2, (1, 2): 1}), (((5, 1), (4, 2), (7, 3)), {(1, 0): 2, (1, 3): 1})]

>>> shelf = Shelf(EVEN, {"two": {(0, 1): 2}})
>>> [shelf.pin(("rich", "two", 1)), shelf.pin(("some", 3, 2)), [row[1] for row in shelf.claims], shelf.edit((("ring", 1, (3, 1)),)), shelf.standing(1)[:2], shelf.fallen, str(shelf)]
[1, 2, [True, False], 2, ('fallen', False), (1,), 'shelf of 1 deals on 5 rings, edition 2']

>>> shelf = Shelf(EVEN, {"two": {(0, 1): 2}})
>>> one, other = Hand(shelf), Hand(shelf)
>>> told = [one.ask(("rich", "two", 1))[0], one.change(("put", "none", {})), other.change(("ring", 1, (3, 1))), other.commit()]
>>> [told, str(one)]
[[True, None, None, 2], 'hand on 1, 2 calls']

>>> [write_chain(PAIR), write_deal(PAIR, {(1, 2): -1, (0, 0): 3}), read_heap(" 3 1"), write_value((1, (None, -3), {(0, 1): 2})), read_deal(PAIR, "0,1:0")]
['3,1 4,1', '0,0:3 1,2:-1', (3, 1), '(1 (none -3) {0,1:2})', {(0, 1): 0}]
"""


def listed_names():
    """A dict from each name of the interface to what it means."""
    names = {"PAIR": PAIR, "TRIO": TRIO, "EVEN": EVEN}
    for module, text in LISTED.items():
        made = importlib.import_module(module)
        for row in " ".join(text.split()).replace(") ", ")\n").splitlines():
            name = row[:row.index("(")]
            names[name] = getattr(made, name)
    return names


class TestExamples(unittest.TestCase):
    def test_all(self):
        test = doctest.DocTestParser().get_doctest(EXAMPLES, listed_names(), "examples", "examples", 0)
        done = doctest.DocTestRunner().run(test)
        self.assertEqual((done.failed, done.attempted), (0, EXAMPLES.count(">>> ")))


if __name__ == "__main__":
    unittest.main()
