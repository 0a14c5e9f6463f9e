"""The names of the interface are there, with the told parameters, defined where it lists them."""

import importlib
import inspect
import unittest

LISTED = {
    "ringstairs.link.chains": """
        is_ring(value) is_chain(value) is_place(chain, value) is_deal(chain, value) order_of(ring)
        does_let(ring, place, diagonal) places_of(chain) left_end(chain) right_end(chain) degree_of(chain, deal)
        written(chain, deal) has_debt(chain, deal) added(chain, one, other) less(chain, one, other)
        multiplied(chain, count, deal) at_ends(chain, a, b) joined_chains(one, other)
    """,
    "ringstairs.link.classes": """
        is_tuple(chain, value) class_of(chain, deal) plain_deal(chain, degree, places) are_alike(chain, one, other)
        lendings(chain, one, other) is_lendings(chain, one, other, value) lent(chain, deal, value)
        class_sum(chain, one, other) class_less(chain, one, other) class_with_ends(chain, one, a, b)
    """,
    "ringstairs.webs.fire": """
        is_web(value) is_web_deal(web, value) lent_web(web, deal, moves) web_lendings(web, one, other)
        reduced(web, place, deal) is_reduced(web, place, deal) without_debt(web, deal)
        is_without_debt(web, deal, value) debt_order(web, deal) is_debt_order(web, deal, value)
        web_richness(web, deal, most) web_taking(web, deal, k) is_web_taking(web, deal, k, value) ring_number(web)
        web_canonical(web) web_of(chain) web_deal(chain, deal)
    """,
    "ringstairs.heap.heaps": """
        is_heap(value) box(columns, rows) squares(heap) is_held(heap, other) turned_over(heap) union_of(one, other)
        common_of(one, other) addable(heap) removable(heap) with_square(heap, diagonal) grown(heap, ring, place)
        heap_of(chain, places) heaps_along(chain, places)
    """,
    "ringstairs.rich.richness": """
        richness(chain, deal) filling_of(chain, deal, k) is_filling_of(chain, deal, k, value) taking(chain, deal, k)
        is_taking(chain, deal, k, value) canonical(chain)
    """,
    "ringstairs.join.pieces": """
        Piece(web, left, right, deal) is_orderly(piece) odd_place(piece) is_odd_place(piece, value)
        piece_value(piece, index) joined_web(pieces) joined_table(pieces, a, b) cuts(pieces, a, b)
        is_cuts(pieces, a, b, value) chain_table(chain, degree, places, a, b) chain_cuts(chain, degree, places, a, b)
        is_chain_cuts(chain, degree, places, a, b, value)
    """,
}


class TestInterface(unittest.TestCase):
    def test_names_and_parameters(self):
        for module, text in LISTED.items():
            rows = " ".join(text.split()).replace(") ", ")\n").splitlines()
            for row in rows:
                name = row[:row.index("(")]
                made = getattr(importlib.import_module(module), name)
                self.assertEqual(name + str(inspect.signature(made)), row)
                self.assertEqual(made.__module__, module)

    def test_methods_of_pieces(self):
        made = importlib.import_module("ringstairs.join.pieces").Piece
        for name in ("table_at", "step_at"):
            self.assertEqual(str(inspect.signature(vars(made)[name])), "(self, a, b)")


if __name__ == "__main__":
    unittest.main()
