"""The names of the interface are there, with the told parameters, defined where it lists them."""

import importlib
import inspect
import unittest

LISTED = {
    "ringstairs.link.chains": """
        is_ring(value) is_chain(value) is_place(chain, value) is_deal(chain, value) order_of(ring)
        does_let(ring, place, diagonal) places_of(chain) left_end(chain) right_end(chain) degree_of(chain, deal)
        written(chain, deal) has_debt(chain, deal) added(chain, one, other) less(chain, one, other)
        multiplied(chain, count, deal) at_ends(chain, a, b) joined_chains(one, other)
    """,
    "ringstairs.link.classes": """
        is_tuple(chain, value) class_of(chain, deal) plain_deal(chain, degree, places) are_alike(chain, one, other)
        lendings(chain, one, other) is_lendings(chain, one, other, value) lent(chain, deal, value)
        class_sum(chain, one, other) class_less(chain, one, other) class_with_ends(chain, one, a, b)
    """,
    "ringstairs.webs.fire": """
        is_web(value) is_web_deal(web, value) lent_web(web, deal, moves) web_lendings(web, one, other)
        reduced(web, place, deal) is_reduced(web, place, deal) without_debt(web, deal)
        is_without_debt(web, deal, value) debt_order(web, deal) is_debt_order(web, deal, value)
        web_richness(web, deal, most) web_taking(web, deal, k) is_web_taking(web, deal, k, value) ring_number(web)
        web_canonical(web) web_of(chain) web_deal(chain, deal)
    """,
    "ringstairs.heap.heaps": """
        is_heap(value) box(columns, rows) squares(heap) is_held(heap, other) turned_over(heap) union_of(one, other)
        common_of(one, other) addable(heap) removable(heap) with_square(heap, diagonal) grown(heap, ring, place)
        heap_of(chain, places) heaps_along(chain, places)
    """,
    "ringstairs.rich.richness": """
        richness(chain, deal) filling_of(chain, deal, k) is_filling_of(chain, deal, k, value) taking(chain, deal, k)
        is_taking(chain, deal, k, value) canonical(chain)
    """,
    "ringstairs.join.pieces": """
        Piece(web, left, right, deal) is_orderly(piece) odd_place(piece) is_odd_place(piece, value)
        piece_value(piece, index) joined_web(pieces) joined_table(pieces, a, b) cuts(pieces, a, b)
        is_cuts(pieces, a, b, value) chain_table(chain, degree, places, a, b) chain_cuts(chain, degree, places, a, b)
        is_chain_cuts(chain, degree, places, a, b, value)
    """,
    "ringstairs.turns.rounds": """
        is_round(value) Round(values) plain_shift(m, t) letter(m, c) widened(p, m)
    """,
    "ringstairs.turns.greedy": """
        greedy(p, q) is_below(p, q) more_at(p, q) is_more_at(p, q, value) does_nothing(p, c) is_split(p, q)
        made_of(m, word) greedily_made(m, word) word_of(p) is_word_of(p, value) least_factor(whole, q)
    """,
    "ringstairs.turns.ends": """
        ring_letters(chain, places) value_at(chain, degree, places, index) index_of(chain, degree, places, target)
        window(chain, degree, places, first, last) end_table(chain, degree, places, a, b)
        gaps_at_left(chain, degree, places) gaps_at_right(chain, degree, places)
        are_one_map(chain, one, other_chain, other) parting(chain, one, other_chain, other)
    """,
    "ringstairs.fill.fillings": """
        is_filling(chain, heap, value) does_fit(chain, heap, places, value) some_filling(chain, heap)
        fitting(chain, heap, places) shortage(chain, heap) is_shortage(chain, heap, value)
        fewest_letters(chain, heap) fillings_count(chain, heap)
    """,
    "ringstairs.fill.boxes": """
        is_box(chain, value) is_in_box(chain, box, value) size_of(chain, box) holds_box(chain, one, other)
        meeting(chain, one, other) box_of(chain, heap, filling) does_fill(chain, heap, box) left_out(chain, heap, box)
        greatest_boxes(chain, heap) boxes_with(chain, heap, places)
    """,
    "ringstairs.fill.counts": """
        classes_by_heap(chain, columns, rows) classes_at_least(chain, degree, k) classes_by_richness(chain, degree)
        standard_fillings(heap) doubled_fillings(columns, rows)
    """,
    "ringstairs.core.cores": """
        is_core(k, value) hook(heap, square) charges(k, core) core_of_charges(k, value) letters_of(k, core)
        bounded_parts(k, core) core_of_parts(k, value) cores(k, letters)
    """,
    "ringstairs.core.words": """
        with_letter(k, core, letter) made_by(k, word) idle_letters(k, word) growing_word(k, core)
        is_growing_word(k, core, value) growing_words_count(k, core) core_subword(k, word, core)
        is_core_subword(k, word, core, value) least_cores(k, columns, rows) least_letters(k, columns, rows)
    """,
    "ringstairs.core.levels": """
        is_levels(value) distance(levels) level_richness(levels, c) are_above(one, other) levels_of(chain, deal)
        core_of_levels(levels) can_be_met(rings, levels) class_with_levels(chain, levels)
        has_levels(chain, levels, value)
    """,
    "ringstairs.ends.wishes": """
        is_wishes(value) meets(chain, deal, wishes) some_class(chain, degree, wishes)
        classes_meeting(chain, degree, wishes) gap_wishes(left, right) gap_rows(chain, degree, left, right)
        gap_filling(chain, deal, left, right) is_gap_filling(chain, deal, left, right, value)
    """,
    "ringstairs.ends.turned": """
        rest_of(chain, deal) backward(chain, deal) flipped(chain, deal, index) least_degree(chain, k)
        least_class(chain, k) is_least_class(chain, k, value) is_two_sided(chain) two_sides(chain)
    """,
    "ringstairs.house.shelf": """
        is_question(value) decide(chain, deals, question) is_paper(chain, deals, question, verdict, value)
        is_edit(value) edited(chain, deals, edits) Shelf(chain, deals=None)
    """,
    "ringstairs.house.hands": """
        Hand(shelf)
    """,
    "ringstairs.house.log": """
        log_text(shelf) read_log(text)
    """,
    "ringstairs.text.texts": """
        write_chain(chain) write_deal(chain, deal) write_heap(heap) read_chain(text) read_deal(chain, text)
        read_heap(text) write_value(value) read_value(text)
    """,
    "ringstairs.text.shell": """
        Shell(shelf)
    """,
}
CONSTANTS = {
    "ringstairs.link.chains": {"MOST_RINGS": 12, "MOST_PLACES": 60, "MOST_DIGITS": 60},
    "ringstairs.webs.fire": {"MOST_PLACES": 12, "MOST_TIES": 40, "MOST_CHIPS": 100, "MOST_TAKEN": 4},
    "ringstairs.heap.heaps": {"MOST_SIDE": 60},
    "ringstairs.join.pieces": {"MOST_PIECE_PLACES": 6, "MOST_PIECE_TIES": 9, "MOST_PIECES": 6, "MOST_ENDS": 400},
    "ringstairs.turns.rounds": {"MAX_ROUND": 60},
    "ringstairs.turns.greedy": {"MAX_FALLS": 1000, "MAX_WORD": 2000},
    "ringstairs.turns.ends": {"MOST_WINDOW": 200, "MOST_PERIOD": 10000},
    "ringstairs.fill.fillings": {"MAX_SQUARES": 42, "MAX_KEPT": 1000},
    "ringstairs.fill.boxes": {"MAX_BOXED": 16, "MAX_RINGS": 8, "MAX_BOXES": 500},
    "ringstairs.core.cores": {"MAX_ORDER": 60, "MAX_LETTERS": 30},
    "ringstairs.core.words": {"MAX_CORE_WORD": 200, "MAX_BOX": 16},
    "ringstairs.ends.wishes": {"MAX_WISHES": 60, "MAX_TRIED": 10000},
    "ringstairs.house.shelf": {"MAX_NAMED": 20, "MAX_CLAIMS": 20, "MAX_EDITIONS": 40, "MAX_EDITS": 10},
    "ringstairs.house.hands": {"MAX_CALLS": 40},
    "ringstairs.text.shell": {"MAX_LINE": 2000},
}
METHODS = {
    ("ringstairs.house.shelf", "Shelf"): """
        edit(self, edits) pin(self, question) chain_at(self, edition=None) deals_at(self, edition=None)
        standing(self, number, edition=None) twin(self)
    """,
    ("ringstairs.house.hands", "Hand"): """
        change(self, edit) ask(self, question) commit(self) renew(self)
    """,
    ("ringstairs.text.shell", "Shell"): """
        say(self, line) run(self, lines)
    """,
    ("ringstairs.turns.rounds", "Round"): """
        counted(self, a, b) second(self, a, b)
    """,
    ("ringstairs.join.pieces", "Piece"): """
        table_at(self, a, b) step_at(self, a, b)
    """,
}
PROPERTIES = {
    ("ringstairs.house.shelf", "Shelf"): "editions claims fallen history",
    ("ringstairs.house.hands", "Hand"): "base calls chain_now deals_now",
    ("ringstairs.text.shell", "Shell"): "said",
    ("ringstairs.turns.rounds", "Round"): "told_values shift falls",
    ("ringstairs.join.pieces", "Piece"): "web left right deal period",
}
OPERATORS = {
    ("ringstairs.house.shelf", "Shelf"): "__init__ __contains__ __len__ __eq__ __str__",
    ("ringstairs.house.hands", "Hand"): "__init__ __len__ __eq__ __str__",
    ("ringstairs.text.shell", "Shell"): "__init__ __str__",
    ("ringstairs.turns.rounds", "Round"): "__init__ __call__ __len__ __str__ __mul__ __invert__ __eq__",
    ("ringstairs.join.pieces", "Piece"): "__init__ __str__ __eq__",
}


class TestInterface(unittest.TestCase):
    def test_names_and_parameters(self):
        for module, text in LISTED.items():
            rows = " ".join(text.split()).replace(") ", ")\n").splitlines()
            for row in rows:
                name = row[:row.index("(")]
                made = getattr(importlib.import_module(module), name)
                self.assertEqual(name + str(inspect.signature(made)), row)
                self.assertEqual(made.__module__, module)

    def test_constants(self):
        for module, told in CONSTANTS.items():
            made = importlib.import_module(module)
            self.assertEqual({name: getattr(made, name) for name in told}, told)

    def test_methods(self):
        for (module, name), text in METHODS.items():
            made = vars(getattr(importlib.import_module(module), name))
            for row in " ".join(text.split()).replace(") ", ")\n").splitlines():
                method = row[:row.index("(")]
                self.assertEqual(method + str(inspect.signature(made[method])), row)

    def test_properties(self):
        for (module, name), text in PROPERTIES.items():
            made = vars(getattr(importlib.import_module(module), name))
            for told in text.split():
                self.assertIsInstance(made[told], property)

    def test_operators(self):
        for (module, name), text in OPERATORS.items():
            made = vars(getattr(importlib.import_module(module), name))
            for told in text.split():
                self.assertIn(told, made)


if __name__ == "__main__":
    unittest.main()
