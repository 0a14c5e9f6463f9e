import copy
import random
import unittest
from itertools import combinations_with_replacement

from ringstairs.errors import InvalidChain, InvalidDeal, InvalidNumber, InvalidOperation, Refused, TooMany
from ringstairs.fill.fillings import is_filling, is_shortage
from ringstairs.heap.heaps import box, is_heap
from ringstairs.house import shelf as module
from ringstairs.house.shelf import Shelf, decide, edited, is_edit, is_paper, is_question
from ringstairs.link.chains import added, at_ends, less, places_of, written
from ringstairs.link.classes import are_alike, class_of, is_lendings, lendings, lent, plain_deal
from ringstairs.rich.richness import is_filling_of, is_taking, richness
from tests.common import (
    EVEN, NO_CHAINS, NO_EDIT_FORMS, NO_EDITIONS, NO_QUESTION_FORMS, PAIR, PILE, SHORT, TRIO, TWELVE,
    check_judge, check_wrong, raised,
)
from tests.samples import all_places, random_chain, random_deal
from tests.shelves import Cells, random_edit, random_named, random_question, random_shelf, try_call

TWO = {"one": {(0, 1): 1}, "two": {(1, 2): 3, (0, 0): -1}}
MANY = {f"n{at}": {} for at in range(20)}


class TestQuestions(unittest.TestCase):
    def test_example(self):
        self.assertEqual(
            (module.MAX_NAMED, module.MAX_CLAIMS, module.MAX_EDITIONS, module.MAX_EDITS), (20, 20, 40, 10))
        shelf = Shelf(EVEN, {"two": {(0, 1): 2}})
        self.assertEqual(
            [
                shelf.pin(("rich", "two", 1)), shelf.pin(("some", 3, 2)), [row[1] for row in shelf.claims],
                shelf.edit((("ring", 1, (3, 1)),)), shelf.standing(1)[:2], shelf.fallen, str(shelf),
            ],
            [1, 2, [True, False], 2, ("fallen", False), (1,), "shelf of 1 deals on 5 rings, edition 2"],
        )

    def test_forms(self):
        right = (
            ("alike", "a", "a"), ("alike", "abcdefgh", "z9"), ("rich", "one", 0), ("rich", "r2d2", 12), ("some", -60, 12),
            ("some", 60, 0), ("some", 0, 0), ("alike", "alike", "rich"),
        )
        for value in right:
            self.assertIs(is_question(value), True)
        for value in NO_QUESTION_FORMS:
            self.assertIs(is_question(value), False)
        edits = (
            ("put", "a", {}), ("put", "a", {(59, 59): 1 - SHORT, (0, 0): 0}), ("drop", "abcdefgh"), ("ring", 12, (60, 59)),
            ("ring", 0, (2, 1)), ("out", 12), ("out", 0), ("turn", 12), ("put", "a1", {(0, 0): SHORT - 1}),
        )
        for value in edits:
            self.assertIs(is_edit(value), True)
        for value in NO_EDIT_FORMS:
            self.assertIs(is_edit(value), False)
        known = (("alike", "one", "three"), ("alike", "three", "one"), ("rich", "three", 1), ("some", -60, 12),
                 ("some", -41, 0), ("some", 0, 5))
        check_judge(self, is_question, (), right + tuple(value for value in known if value in PILE))
        check_judge(self, is_edit, (), edits + (("turn", 0),))

    def test_verdicts_and_papers(self):
        rng = random.Random(1)
        seen = {}
        for _ in range(250):
            chain = random_chain(rng, 8, 7)
            deals = random_named(rng, chain, 3)
            names = list(deals)
            if names:
                # An alike deal, too.
                one = deals[names[0]]
                deals["like"] = lent(chain, one, {}) if rng.random() < 0.5 else plain_deal(chain, *class_of(chain, one))
            question = random_question(rng, chain, deals)
            if question[0] != "some" and not names:
                continue
            if question[0] == "some" and (question[2] + 1) * (len(chain) - question[1] + question[2]) > 42:
                raised(self, InvalidOperation, decide, chain, deals, question)
                continue
            verdict, paper = decide(chain, deals, question)
            self.assertEqual(verdict, self.slow_verdict(chain, deals, question))
            seen[question[0], verdict] = seen.get((question[0], verdict), 0) + 1
            self.assertIs(is_paper(chain, deals, question, verdict, paper), True)
            self.assertIs(is_paper(chain, deals, question, not verdict, paper), False)
            self.check_form(chain, deals, question, verdict, paper)
            for turned in self.turned(paper):
                told = is_paper(chain, deals, question, verdict, turned)
                self.assertIs(told, self.slow_paper(chain, deals, question, verdict, turned))
                self.assertIs(is_paper(chain, deals, question, not verdict, turned), False)
        self.assertEqual(len(seen), 6)
        self.assertTrue(min(seen.values()) >= 5, seen)

    def slow_verdict(self, chain, deals, question):
        word, first, second = question
        if word == "alike":
            return class_of(chain, deals[first]) == class_of(chain, deals[second])
        if word == "rich":
            return richness(chain, deals[first]) >= second
        many = 1
        for n, _ in chain:
            many *= n
        if many <= 300:
            return any(richness(chain, plain_deal(chain, first, x)) >= second for x in all_places(chain))
        return decide(chain, {}, question)[0]

    def slow_paper(self, chain, deals, question, verdict, value):
        word, first, second = question
        if word == "alike" and verdict:
            return is_lendings(chain, deals[first], deals[second], value)
        if word == "alike":
            return repr(value) == repr((class_of(chain, deals[first]), class_of(chain, deals[second])))
        if word == "rich":
            judge = is_filling_of if verdict else is_taking
            return judge(chain, deals[first], second, value)
        heap = box(second + 1, len(chain) - first + second)
        return (is_filling if verdict else is_shortage)(chain, heap, value)

    def check_form(self, chain, deals, question, verdict, paper):
        word, first, second = question
        if word == "alike":
            told = lendings(chain, deals[first], deals[second])
            self.assertEqual(told, paper if verdict else None)
            if not verdict:
                self.assertEqual(paper, (class_of(chain, deals[first]), class_of(chain, deals[second])))
        if word == "rich" and not verdict:
            self.assertEqual(sum(paper.values()), second)
        if word == "some" and not verdict:
            self.assertTrue(all(is_heap(heap) for row in paper for heap in row))

    def turned(self, paper):
        yield None
        yield [paper]
        yield (paper,)
        if isinstance(paper, dict):
            for place in list(paper)[:3]:
                for number in (paper[place] + 1, -paper[place], 0, True, None):
                    yield {**paper, place: number}
                yield {one: paper[one] for one in paper if one != place}
                yield {**{one: paper[one] for one in paper if one != place}, (place[0], place[1] + 1): paper[place]}
        else:
            yield list(paper)
            yield paper[1:]
            yield paper + ((),)
            for at, row in enumerate(paper):
                yield paper[:at] + (row[1:],) + paper[at + 1:]
                if row and isinstance(row[0], int):
                    yield paper[:at] + ((row[0] + 1,) + row[1:],) + paper[at + 1:]
                    yield paper[:at] + ((bool(row[0]),) + row[1:],) + paper[at + 1:]
                if row and isinstance(row[0], tuple):
                    yield paper[:at] + ((row[0] + (1,),) + row[1:],) + paper[at + 1:]

    def test_other_papers(self):
        # Right papers that the program would not tell.
        chain, deals = ((3, 1),) * 4, {"a": {(3, 0): 3}}
        question = ("rich", "a", 0)
        self.assertIs(decide(chain, deals, question)[0], True)
        for index in range(4):
            self.assertIs(is_paper(chain, deals, question, True, ((index,),)), index in (0, 3))
        question = ("rich", "a", 2)
        right = 0
        for pair in combinations_with_replacement(places_of(chain), 2):
            value = {place: pair.count(place) for place in pair}
            told = richness(chain, less(chain, deals["a"], value)) == -1
            self.assertIs(is_paper(chain, deals, question, False, value), told)
            right += told
        self.assertTrue(1 < right < 45)
        question = ("some", 4, 1)
        for value in (((0,), (1,)), ((2,), (3,)), ((0,), (3,))):
            self.assertIs(is_paper(chain, deals, question, True, value), True)
        shortage = decide(EVEN[:3], {}, ("some", 1, 1))[1]
        self.assertIs(is_paper(EVEN[:3], {}, ("some", 1, 1), False, shortage), True)
        more = shortage[:1] + (shortage[1] + ((),),) + shortage[2:]
        self.assertIs(is_paper(EVEN[:3], {}, ("some", 1, 1), False, more), True)

    def test_great_deals(self):
        for great in (SHORT - 1, 1 - SHORT):
            deals = {"a": {(0, 1): great, (2, 0): -great}, "b": {(1, 1): great}, "c": {(0, 2): great, (2, 3): great}}
            for question in (("alike", "a", "b"), ("alike", "a", "a"), ("rich", "a", 3), ("rich", "b", 12), ("rich", "c", 0)):
                verdict, paper = decide(TRIO, deals, question)
                self.assertIs(is_paper(TRIO, deals, question, verdict, paper), True)
        places = {(j, p): SHORT - 1 for j, ring in enumerate(TWELVE) for p in range(1, ring[0]) if p != ring[1]}
        deals = {"a": places, "b": {**places, **{(0, 0): 5}}, "c": {place: -number for place, number in places.items()}}
        for question in (("alike", "a", "b"), ("alike", "a", "c"), ("alike", "c", "c"), ("rich", "c", 12)):
            verdict, paper = decide(TWELVE, deals, question)
            self.assertIs(is_paper(TWELVE, deals, question, verdict, paper), True)

    def test_edges_of_questions(self):
        # Boxes of 42 and of 43 squares.
        twelve = ((3, 1),) * 12
        for d, k in ((10, 5), (12, 6), (-30, 0)):
            self.assertEqual((k + 1) * (12 - d + k), 42)
            decide(twelve, {}, ("some", d, k))
        for d, k in ((-31, 0), (9, 5), (11, 6), (0, 12), (-60, 12)):
            self.assertTrue((k + 1) * (12 - d + k) > 42)
            raised(self, InvalidOperation, decide, twelve, {}, ("some", d, k))
        self.assertEqual((0 + 1) * (12 + 31 + 0), 43)
        self.assertEqual((0 + 1) * (2 + 41 + 0), 43)
        raised(self, InvalidOperation, decide, PAIR, {}, ("some", -41, 0))
        decide(PAIR, {}, ("some", -40, 0))
        self.assertEqual(decide(twelve, {}, ("some", 60, 12)), (True, ()))
        self.assertEqual(decide(twelve, {}, ("some", 24, 12)), (True, ()))
        self.assertEqual(decide(PAIR, {}, ("some", 60, 12))[0], True)
        raised(self, InvalidOperation, decide, PAIR, TWO, ("alike", "one", "three"))
        self.assertEqual(decide(PAIR, MANY, ("rich", "n19", 0)), (True, ((0, 1),)))
        raised(self, InvalidDeal, decide, PAIR, {**MANY, "n20": {}}, ("rich", "n19", 0))

    def test_judge(self):
        for question, verdict, right in (
            (("alike", "one", "two"), False, (((1, (1, 0)), (2, (0, 0))),)),
            (("alike", "one", "one"), True, ({},)),
            (("rich", "one", 0), True, ()),
            (("rich", "one", 1), False, ()),
            (("some", 1, 0), True, ()),
            (("some", 1, 1), False, ()),
        ):
            told = decide(PAIR, TWO, question)
            self.assertIs(told[0], verdict)
            right = right or (told[1],)
            self.assertIn(told[1], right)
            every = [value for value in PILE if self.slow_paper(PAIR, TWO, question, verdict, value)]
            check_judge(self, is_paper, (PAIR, TWO, question, verdict), list(right) + every)
            check_judge(self, is_paper, (PAIR, TWO, question, not verdict))

    def test_wrong(self):
        check_wrong(self, decide, (PAIR, TWO, ("rich", "one", 1)), ("chain", "named", "question"))
        check_wrong(
            self, is_paper, (PAIR, TWO, ("rich", "one", 1), True, None), ("chain", "named", "question", "verdict", None))
        check_wrong(self, edited, (PAIR, TWO, (("turn", 0),)), ("chain", "named", "edits"))
        check_wrong(self, Shelf, (PAIR, TWO), ("chain", "named maybe"))
        for value in NO_CHAINS:
            raised(self, InvalidChain, Shelf, value)
            raised(self, InvalidChain, Shelf, value, None)


class TestEdits(unittest.TestCase):
    def test_against_cells(self):
        rng = random.Random(2)
        done = 0
        while done < 400:
            chain = random_chain(rng, 5, 6)
            deals = random_named(rng, chain, 4)
            edits, cells, now = [], Cells(chain, deals), (chain, Cells(chain, deals).told()[1])
            for _ in range(rng.randint(1, 10)):
                edit = random_edit(rng, *now)
                if (edit[0] == "drop" and edit[1] not in now[1]) or (edit[0] == "out" and len(now[0]) == 1):
                    continue
                if edit[0] == "ring" and len(now[0]) == 12:
                    continue
                edits.append(edit)
                cells.do(edit)
                now = cells.told()
            if not edits:
                continue
            done += 1
            before = copy.deepcopy((deals, edits))
            more, moved = edited(chain, deals, tuple(edits))
            self.assertEqual((more, moved), now)
            self.assertEqual((deals, edits), before)
            self.assertEqual(list(moved), sorted(moved))
            for deal in moved.values():
                self.assertEqual(list(deal), sorted(deal))
                self.assertEqual(deal, written(more, deal))
            # One after the other.
            one = (chain, deals)
            for edit in edits:
                one = edited(*one, (edit,))
            self.assertEqual(one, now)

    def test_there_and_back(self):
        rng = random.Random(3)
        for _ in range(100):
            chain = random_chain(rng, 6, 6)
            deals = random_named(rng, chain, 3)
            plain = edited(chain, {**deals, "gone": {}}, (("drop", "gone"),))
            j = rng.randrange(len(chain))
            self.assertEqual(edited(chain, deals, (("turn", j), ("turn", j))), plain)
            at = rng.randint(0, len(chain))
            self.assertEqual(edited(chain, deals, (("ring", at, (5, 2)), ("out", at))), plain)
            self.assertEqual(edited(chain, deals, (("ring", at, (5, 2)), ("turn", at), ("out", at))), plain)

    def test_told_places(self):
        deals = {"a": {(0, 0): 1, (1, 1): 2, (0, 1): 4, (1, 0): 8, (0, 2): 16, (1, 2): 32}}
        told = {
            ("ring", 0, (2, 1)): (((2, 1), (3, 1), (4, 1)), {(0, 0): 4, (1, 0): 3, (1, 2): 16, (2, 0): 8, (2, 2): 32}),
            ("ring", 1, (2, 1)): (((3, 1), (2, 1), (4, 1)), {(0, 0): 3, (0, 1): 4, (0, 2): 16, (2, 0): 8, (2, 2): 32}),
            ("ring", 2, (2, 1)): (((3, 1), (4, 1), (2, 1)), {(0, 0): 3, (0, 1): 4, (0, 2): 16, (1, 0): 8, (1, 2): 32}),
            ("out", 0): (((4, 1),), {(0, 0): 8, (0, 1): 7, (0, 2): 32}),
            ("out", 1): (((3, 1),), {(0, 0): 11, (0, 1): 4, (0, 2): 16}),
            ("turn", 0): (((3, 2), (4, 1)), {(0, 0): 3, (0, 1): 16, (0, 2): 4, (1, 0): 8, (1, 2): 32}),
            ("turn", 1): (((3, 1), (4, 3)), {(0, 0): 3, (0, 1): 4, (0, 2): 16, (1, 0): 8, (1, 2): 32}),
        }
        for edit, (chain, deal) in told.items():
            self.assertEqual(edited(PAIR, deals, (edit,)), (chain, {"a": deal}))
        self.assertEqual(
            edited(TRIO, {"a": {(1, 2): 1, (1, 0): 2, (1, 1): 4, (0, 3): 8, (2, 2): 16}}, (("out", 1),)),
            (((5, 1), (7, 3)), {"a": {(0, 0): 3, (0, 3): 8, (1, 2): 16}}))

    def refused(self, chain, deals, edits, index, word):
        before = copy.deepcopy((deals, edits))
        self.assertEqual(raised(self, Refused, edited, chain, deals, edits).reason, ("edit", index, word))
        self.assertEqual((deals, edits), before)
        shelf = Shelf(chain, deals)
        twin = shelf.twin()
        self.assertEqual(raised(self, Refused, shelf.edit, edits).reason, ("edit", index, word))
        self.assertEqual((shelf == twin, shelf.history, shelf.editions), (True, (), 1))

    def test_words(self):
        great = {"great": {(0, 0): SHORT - 1, (1, 0): 1}}
        rows = (
            (PAIR, TWO, ("drop", "three"), "unknown"),
            (PAIR, TWO, ("out", 2), "unknown"),
            (PAIR, TWO, ("turn", 2), "unknown"),
            (PAIR, TWO, ("out", 12), "unknown"),
            (PAIR, TWO, ("ring", 3, (3, 1)), "unknown"),
            (PAIR, TWO, ("put", "a", {(0, 3): 1}), "place"),
            (PAIR, TWO, ("put", "a", {(2, 0): 0}), "place"),
            (PAIR, MANY, ("put", "a", {}), "many"),
            (TWELVE, TWO, ("ring", 0, (3, 1)), "many"),
            (TWELVE, TWO, ("ring", 12, (3, 1)), "many"),
            (PAIR[:1], {}, ("out", 0), "few"),
            (PAIR, TWO, ("put", "a", {(0, 0): SHORT - 1, (1, 1): 1}), "great"),
            (PAIR, TWO, ("put", "a", {(0, 0): 1 - SHORT, (1, 1): -1}), "great"),
            (PAIR, great, ("out", 1), "great"),
            (TRIO, {"a": {(0, 0): SHORT - 1, (1, 0): 1}, "b": {}}, ("out", 1), "great"),
            (PAIR, {"a": {(0, 1): 1 - SHORT, (0, 0): -1}}, ("out", 0), "great"),
            # Several words apply: the first one is told.
            (PAIR, MANY, ("put", "a", {(0, 3): 1}), "place"),
            (PAIR, MANY, ("put", "a", {(0, 0): SHORT - 1, (1, 1): 1}), "many"),
            (PAIR, TWO, ("put", "a", {(0, 0): SHORT - 1, (1, 1): 1, (2, 0): 1}), "place"),
            (PAIR[:1], {}, ("out", 1), "unknown"),
            (PAIR[:1], {"a": {(0, 0): SHORT - 1, (0, 1): 1}}, ("out", 0), "few"),
        )
        for chain, deals, edit, word in rows:
            deals = {} if chain is TWELVE else deals
            self.refused(chain, deals, (edit,), 0, word)
            self.refused(chain, deals, (("turn", 0), ("turn", 0), edit, edit), 2, word)
            self.refused(chain, deals, (edit, ("drop", "nobody")), 0, word)
        # Another deal with a name that is there, and as many as may be.
        self.assertEqual(len(edited(PAIR, MANY, (("put", "n3", {(0, 1): 1}),))[1]), 20)
        self.assertEqual(len(edited(PAIR, MANY, (("drop", "n3"), ("put", "a", {})))[1]), 20)
        self.assertEqual(len(edited(TWELVE, {}, (("out", 3), ("ring", 11, (2, 1))))[0]), 12)
        self.assertEqual(edited(PAIR, {"a": {(0, 0): SHORT - 1, (1, 1): -1}}, (("out", 0),)), (
            ((4, 1),), {"a": {(0, 1): SHORT - 2}}))
        # What one edit puts in, the next one can ask for.
        self.refused(PAIR, {}, (("put", "a", {}), ("drop", "a"), ("drop", "a")), 2, "unknown")
        self.refused(PAIR, {}, (("out", 1), ("out", 0)), 1, "few")
        self.refused(PAIR, {}, (("out", 1), ("put", "a", {(1, 0): 1})), 1, "place")

    def test_limits(self):
        turns = (("turn", 0),) * 10
        self.assertEqual(edited(PAIR, {}, turns), (PAIR, {}))
        raised(self, InvalidOperation, edited, PAIR, {}, turns + (("turn", 0),))
        raised(self, InvalidOperation, edited, PAIR, {}, ())
        # The form of all edits is asked for ahead of a refusal.
        raised(self, InvalidOperation, edited, PAIR, {}, (("drop", "a"), ("drop", "A")))
        raised(self, InvalidOperation, edited, PAIR, {}, (("put", "a", {(0, 0): SHORT}),))


class TestShelf(unittest.TestCase):
    def test_what_it_tells(self):
        shelf = Shelf(PAIR, TWO)
        self.assertEqual((shelf.editions, shelf.claims, shelf.fallen, shelf.history), (1, (), (), ()))
        self.assertEqual((shelf.chain_at(), shelf.deals_at()), (PAIR, {"one": {(0, 1): 1}, "two": {(0, 0): -1, (1, 2): 3}}))
        self.assertEqual((len(shelf), str(shelf)), (2, "shelf of 2 deals on 2 rings, edition 1"))
        for value in PILE:
            self.assertIs(value in shelf, False)
        for value in ("one", "two"):
            self.assertIs(value in shelf, True)
        self.assertEqual(shelf.edit((("drop", "one"), ("ring", 0, (5, 2)))), 2)
        self.assertEqual(("one" in shelf, "two" in shelf, "three" in shelf, len(shelf)), (False, True, False, 1))
        self.assertEqual(str(shelf), "shelf of 1 deals on 3 rings, edition 2")
        self.assertEqual((shelf.chain_at(1), shelf.chain_at(2)), (PAIR, ((5, 2),) + PAIR))
        self.assertEqual(list(shelf.deals_at(1)), ["one", "two"])
        self.assertEqual(shelf.history, (("edit", (("drop", "one"), ("ring", 0, (5, 2)))),))
        for call in (iter, list):
            with self.assertRaises(TypeError):
                call(shelf)
        self.assertEqual((len(Shelf(PAIR)), Shelf(PAIR).deals_at(), Shelf(PAIR, {}) == Shelf(PAIR, None)), (0, {}, True))
        self.assertEqual(Shelf(PAIR, deals={"b": {}, "a": {(1, 1): 0}}).deals_at(), {"a": {}, "b": {}})
        self.assertEqual(list(Shelf(PAIR, deals={"b": {}, "a": {}}).deals_at(edition=1)), ["a", "b"])

    def test_shares_no_state(self):
        deals = {"one": {(0, 1): 1}}
        shelf = Shelf(PAIR, deals)
        deals["one"][(0, 1)] = 7
        deals["two"] = {}
        self.assertEqual(shelf.deals_at(), {"one": {(0, 1): 1}})
        edit = ("put", "two", {(1, 1): 2, (0, 1): 0})
        shelf.edit((edit,))
        edit[2][(1, 1)] = 9
        self.assertEqual(shelf.history, (("edit", (("put", "two", {(0, 1): 0, (1, 1): 2}),)),))
        self.assertEqual(list(shelf.history[0][1][0][2]), [(0, 1), (1, 1)])
        shelf.history[0][1][0][2].clear()
        shelf.deals_at()["two"].clear()
        shelf.deals_at().clear()
        shelf.deals_at(1)["one"][(0, 1)] = 5
        shelf.pin(("alike", "one", "one"))
        shelf.pin(("rich", "one", 2))
        for number in (1, 2):
            shelf.standing(number)[2][(0, 0)] = 3
        self.assertEqual(shelf.standing(1), ("stands", True, {}))
        self.assertEqual(sum(shelf.standing(2)[2].values()), 2)
        self.assertEqual(shelf.history[0], ("edit", (("put", "two", {(0, 1): 0, (1, 1): 2}),)))
        self.assertEqual(shelf.deals_at(), {"one": {(0, 1): 1}, "two": {(0, 0): 2}})
        self.assertEqual(shelf.deals_at(1), {"one": {(0, 1): 1}})

    def slow_standings(self, shelf, number):
        """The standings of a claim from its pinning on."""
        question, pinned, first = shelf.claims[number - 1]
        rows = []
        for edition in range(first, shelf.editions + 1):
            chain, deals = shelf.chain_at(edition), shelf.deals_at(edition)
            try:
                verdict, paper = decide(chain, deals, question)
            except InvalidOperation:
                rows.append(("fallen", None, None))
                continue
            if verdict != pinned:
                rows.append(("fallen", verdict, paper))
            elif not rows:
                rows.append(("stands", verdict, paper))
            elif is_paper(chain, deals, question, pinned, rows[-1][2]):
                rows.append(("stands", verdict, rows[-1][2]))
            else:
                rows.append(("another", verdict, paper))
        return rows

    def test_standings(self):
        rng = random.Random(4)
        seen = {}
        for _ in range(60):
            shelf = random_shelf(rng, 25)
            fallen = []
            for number in range(1, len(shelf.claims) + 1):
                rows = self.slow_standings(shelf, number)
                first = shelf.claims[number - 1][2]
                for edition in range(first, shelf.editions + 1):
                    self.assertEqual(shelf.standing(number, edition), rows[edition - first])
                    word, verdict, _ = rows[edition - first]
                    seen[word, verdict] = seen.get((word, verdict), 0) + 1
                self.assertEqual(shelf.standing(number), rows[-1])
                self.assertEqual(shelf.standing(number, None), rows[-1])
                if rows[-1][0] == "fallen":
                    fallen.append(number)
                for edition in list(range(first)) + [shelf.editions + 1, True, "1"]:
                    self.assertEqual(raised(self, InvalidNumber, shelf.standing, number, edition).given, edition)
            self.assertEqual(shelf.fallen, tuple(fallen))
        self.assertEqual(
            set(seen), {(word, verdict) for word in ("stands", "another", "fallen") for verdict in (True, False)}
            | {("fallen", None)})

    def test_kept_papers(self):
        shelf = Shelf(((3, 1),) * 4, {"a": {(3, 0): 5}, "b": {}})
        shelf.pin(("rich", "a", 0))
        ahead = shelf.standing(1)
        shelf.edit((("put", "c", {}),))
        self.assertEqual(shelf.standing(1), ahead)
        shelf.edit((("drop", "a"),))
        self.assertEqual(shelf.standing(1), ("fallen", None, None))
        shelf.edit((("put", "a", {(3, 0): 5}),))
        self.assertEqual(shelf.standing(1)[0], "another")
        shelf.edit((("turn", 1),))
        self.assertEqual(shelf.standing(1, 2), ahead)
        self.assertEqual([shelf.standing(1, edition)[0] for edition in range(1, 6)],
                         ["stands", "stands", "fallen", "another", shelf.standing(1)[0]])

    def test_turned_and_put_in(self):
        rng = random.Random(5)
        fell = 0
        for _ in range(80):
            shelf = random_shelf(rng, 14)
            ahead = shelf.fallen
            shelf.edit((("turn", rng.randrange(len(shelf.chain_at()))),))
            self.assertEqual(shelf.fallen, ahead)
            if len(shelf.chain_at()) == 12:
                continue
            shelf.edit((("ring", rng.randint(0, len(shelf.chain_at())), random_chain(rng, 1, 7)[0]),))
            for number in shelf.fallen:
                if number not in ahead:
                    question, verdict, _ = shelf.claims[number - 1]
                    self.assertFalse(question[0] == "rich" and not verdict)
                    fell += question[0] == "rich"
        self.assertTrue(fell > 0)

    def test_twins(self):
        rng = random.Random(6)
        for _ in range(40):
            shelf = random_shelf(rng, 10)
            twin = shelf.twin()
            self.assertEqual((twin == shelf, twin != shelf), (True, False))
            self.assertEqual(twin.history, shelf.history)
            before = (str(shelf), shelf.claims, shelf.history, shelf.fallen, shelf.editions)
            for _ in range(5):
                try_call(rng, twin)
            self.assertEqual((str(shelf), shelf.claims, shelf.history, shelf.fallen, shelf.editions), before)
            again = shelf.twin()
            for word, told in twin.history[len(shelf.history):]:
                (again.edit if word == "edit" else again.pin)(told)
            self.assertEqual(again, twin)
            for number in range(1, len(twin.claims) + 1):
                self.assertEqual(again.standing(number), twin.standing(number))
            self.assertIs(shelf == twin, len(shelf.history) == len(twin.history))

    def test_equal(self):
        one, other = Shelf(PAIR, TWO), Shelf(PAIR, TWO)
        self.assertEqual((one == other, one != other), (True, False))
        one.edit((("turn", 0), ("turn", 0)))
        self.assertEqual((one == other, one != other), (False, True))
        other.edit((("turn", 1), ("turn", 1)))
        # Equal editions behind other edits.
        self.assertEqual(one, other)
        self.assertNotEqual(one.history, other.history)
        one.pin(("rich", "one", 1))
        self.assertNotEqual(one, other)
        other.pin(("rich", "one", 0))
        self.assertNotEqual(one, other)
        for value in PILE:
            self.assertEqual((one == value, one != value), (False, True))
        self.assertNotEqual(Shelf(PAIR), Shelf(TRIO))

    def test_limits(self):
        shelf = Shelf(PAIR, TWO)
        for number in range(1, 21):
            self.assertEqual(shelf.pin(("rich", "one", number % 3)), number)
        twin = shelf.twin()
        self.assertEqual(raised(self, TooMany, shelf.pin, ("rich", "one", 1)).limit, 20)
        raised(self, InvalidOperation, shelf.pin, ("rich", "three", 1))
        self.assertEqual(shelf, twin)
        for edition in range(2, 41):
            self.assertEqual(shelf.edit((("turn", edition % 2),)), edition)
        twin = shelf.twin()
        self.assertEqual(raised(self, TooMany, shelf.edit, (("turn", 0),)).limit, 40)
        self.assertEqual(raised(self, Refused, shelf.edit, (("drop", "three"),)).reason, ("edit", 0, "unknown"))
        raised(self, InvalidOperation, shelf.edit, ())
        self.assertEqual((shelf == twin, shelf.history == twin.history, len(shelf.history)), (True, True, 59))
        self.assertEqual(str(shelf), "shelf of 2 deals on 2 rings, edition 40")
        self.assertEqual(raised(self, InvalidNumber, shelf.standing, 21, 40).given, 21)
        self.assertEqual(raised(self, InvalidNumber, shelf.standing, 20, 41).given, 41)

    def shelf_of_two(self):
        shelf = Shelf(PAIR, TWO)
        shelf.pin(("rich", "one", 1))
        shelf.pin(("alike", "one", "two"))
        shelf.edit((("turn", 0),))
        return shelf

    def test_wrong(self):
        shelf = self.shelf_of_two()
        twin = shelf.twin()
        check_wrong(self, shelf.twin().edit, ((("turn", 0),),), ("edits",))
        check_wrong(self, shelf.twin().pin, (("rich", "one", 1),), ("question",))
        for call in (shelf.chain_at, shelf.deals_at):
            check_wrong(self, call, (1,), ("edition",))
        check_wrong(self, shelf.standing, (2, 1), ("claim number", "edition"))
        self.assertEqual((shelf == twin, shelf.history == twin.history), (True, True))
        for value in NO_EDIT_FORMS:
            raised(self, InvalidOperation, shelf.edit, (value,))
            raised(self, InvalidOperation, shelf.edit, (("turn", 0), value))
        for value in NO_QUESTION_FORMS:
            raised(self, InvalidOperation, shelf.pin, value)
        for value in NO_EDITIONS:
            self.assertIs(raised(self, InvalidNumber, shelf.standing, 1, value).given, value)
        # An edition ahead of the pinning.
        shelf.pin(("rich", "one", 0))
        self.assertEqual(raised(self, InvalidNumber, shelf.standing, 3, 1).given, 1)
        self.assertEqual(shelf.standing(3, 2)[0], "stands")
        raised(self, InvalidDeal, Shelf, PAIR, {"a": {(0, 0): SHORT}})
        raised(self, InvalidDeal, Shelf, PAIR, [("a", {})])

    def test_ends(self):
        # A chip at an end stays there, whatever is put in at the other one.
        rng = random.Random(7)
        for _ in range(40):
            chain = random_chain(rng, 5, 6)
            deal = random_deal(rng, chain, 3)
            more, moved = edited(chain, {"a": deal, "b": added(chain, deal, at_ends(chain, 2, 3))}, (
                ("ring", 0, (5, 3)), ("out", 0), ("ring", len(chain), (4, 1)), ("out", len(chain))))
            self.assertEqual(more, chain)
            self.assertIs(are_alike(chain, moved["b"], added(chain, moved["a"], at_ends(chain, 2, 3))), True)


if __name__ == "__main__":
    unittest.main()
