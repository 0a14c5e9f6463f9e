import copy
import random
import unittest

from ringstairs.errors import InvalidOperation, Refused, TooMany
from ringstairs.house import hands
from ringstairs.house.hands import Hand
from ringstairs.house.shelf import Shelf, decide, edited
from tests.common import EVEN, NO_EDIT_FORMS, PAIR, PILE, SHORT, check_wrong, raised
from tests.samples import random_chain
from tests.shelves import random_edit, random_named, random_question, random_shelf, try_call

TWO = {"one": {(0, 1): 1}, "two": {(1, 2): 3}}


def fails_at(shelf, calls, asks=True):
    """The index of the call at which a replay on the last edition fails, None if it does not."""
    chain, deals = shelf.chain_at(), shelf.deals_at()
    for index, call in enumerate(calls):
        if call[0] == "edit":
            try:
                chain, deals = edited(chain, deals, (call[1],))
            except Refused:
                return index
        elif asks:
            try:
                if decide(chain, deals, call[1])[0] != call[2]:
                    return index
            except InvalidOperation:
                return index
    return None


def try_hand(rng, hand):
    """One call of a hand, unless it is refused."""
    try:
        if rng.random() < 0.4:
            hand.ask(random_question(rng, hand.chain_now, hand.deals_now))
        else:
            hand.change(random_edit(rng, hand.chain_now, hand.deals_now))
    except (Refused, TooMany, ValueError):
        pass


class TestHands(unittest.TestCase):
    def test_example(self):
        self.assertEqual(hands.MAX_CALLS, 40)
        shelf = Shelf(EVEN, {"two": {(0, 1): 2}})
        one, other = Hand(shelf), Hand(shelf)
        told = [
            one.ask(("rich", "two", 1))[0], one.change(("put", "none", {})), other.change(("ring", 1, (3, 1))),
            other.commit(),
        ]
        self.assertEqual([told, str(one)], [[True, None, None, 2], "hand on 1, 2 calls"])
        self.assertEqual(raised(self, Refused, one.commit).reason, ("call", 0))
        self.assertEqual(one.renew(), 2)
        self.assertEqual((one.calls, one.commit(), one.base, one.calls), ((("edit", ("put", "none", {})),), 3, 3, ()))

    def test_what_it_tells(self):
        shelf = Shelf(PAIR, TWO)
        hand = Hand(shelf)
        self.assertEqual((hand.base, hand.calls, len(hand), str(hand)), (1, (), 0, "hand on 1, 0 calls"))
        self.assertEqual((hand.chain_now, hand.deals_now), (PAIR, TWO))
        self.assertIsNone(hand.change(("turn", 0)))
        self.assertIsNone(hand.change(("put", "a", {(1, 1): 2, (0, 1): 0})))
        self.assertEqual(hand.deals_now, {"a": {(0, 0): 2}, "one": {(0, 2): 1}, "two": {(1, 2): 3}})
        self.assertEqual(list(hand.deals_now), ["a", "one", "two"])
        self.assertEqual(hand.ask(("rich", "a", 1)), decide(hand.chain_now, hand.deals_now, ("rich", "a", 1)))
        self.assertEqual(hand.calls, (
            ("edit", ("turn", 0)), ("edit", ("put", "a", {(0, 1): 0, (1, 1): 2})),
            ("ask", ("rich", "a", 1), decide(((3, 2), (4, 1)), hand.deals_now, ("rich", "a", 1))[0])))
        self.assertEqual(list(hand.calls[1][1][2]), [(0, 1), (1, 1)])
        self.assertEqual((str(hand), len(hand), hand.base), ("hand on 1, 3 calls", 3, 1))
        # The shelf knows nothing of it yet.
        self.assertEqual((shelf.editions, shelf.history, len(shelf)), (1, (), 2))
        self.assertEqual(hand.commit(), 2)
        self.assertEqual((hand.base, hand.calls, len(hand), shelf.editions), (2, (), 0, 2))
        self.assertEqual((hand.chain_now, hand.deals_now), (shelf.chain_at(), shelf.deals_at()))
        self.assertEqual(shelf.history, (("edit", (("turn", 0), ("put", "a", {(0, 1): 0, (1, 1): 2}))),))
        with self.assertRaises(TypeError):
            iter(hand)

    def test_base_is_the_last_edition(self):
        shelf = Shelf(PAIR, TWO)
        shelf.edit((("turn", 0),))
        hand = Hand(shelf)
        shelf.edit((("out", 0),))
        self.assertEqual((hand.base, hand.chain_now), (2, ((3, 2), (4, 1))))
        self.assertEqual((hand.renew(), hand.base, hand.chain_now), (3, 3, ((4, 1),)))

    def test_shares_no_state(self):
        shelf = Shelf(PAIR, TWO)
        hand = Hand(shelf)
        edit = ("put", "a", {(0, 1): 5})
        hand.change(edit)
        edit[2].clear()
        hand.deals_now["a"].clear()
        hand.deals_now.clear()
        hand.calls[0][1][2][(0, 2)] = 7
        paper = hand.ask(("alike", "a", "a"))[1]
        paper[(0, 0)] = 1
        self.assertEqual(hand.deals_now["a"], {(0, 1): 5})
        self.assertEqual(hand.calls[0], ("edit", ("put", "a", {(0, 1): 5})))
        self.assertEqual(hand.ask(("alike", "a", "a"))[1], {})
        hand.commit()
        self.assertEqual(shelf.deals_at()["a"], {(0, 1): 5})
        # The shelf itself is kept, not a copy.
        shelf.edit((("drop", "a"),))
        self.assertEqual(hand.renew(), 3)

    def test_against_replays(self):
        rng = random.Random(1)
        seen = {"let": 0, "failed": 0, "empty": 0, "renewed": 0, "kept": 0}
        for _ in range(150):
            shelf = random_shelf(rng, rng.randint(0, 5))
            hand_row = [Hand(shelf) for _ in range(3)]
            for _ in range(40):
                hand = rng.choice(hand_row)
                deed = rng.random()
                if deed < 0.7:
                    try_hand(rng, hand)
                elif deed < 0.8:
                    try_call(rng, shelf)
                elif deed < 0.92:
                    seen[self.commit(shelf, hand)] += 1
                else:
                    seen[self.renew(shelf, hand)] += 1
                chain, deals = shelf.chain_at(hand.base), shelf.deals_at(hand.base)
                for call in hand.calls:
                    if call[0] == "edit":
                        chain, deals = edited(chain, deals, (call[1],))
                    else:
                        self.assertEqual(decide(chain, deals, call[1])[0], call[2])
                self.assertEqual((hand.chain_now, hand.deals_now), (chain, deals))
                self.assertEqual(str(hand), f"hand on {hand.base}, {len(hand.calls)} calls")
        self.assertTrue(min(seen.values()) > 20, seen)

    def commit(self, shelf, hand):
        edits = tuple(call[1] for call in hand.calls if call[0] == "edit")
        before, base, calls = shelf.twin(), hand.base, hand.calls
        failing = fails_at(shelf, calls)
        if not edits or failing is not None:
            reason = ("empty",) if not edits else ("call", failing)
            self.assertEqual(raised(self, Refused, hand.commit).reason, reason)
            self.assertEqual((shelf, hand.base, hand.calls), (before, base, calls))
            self.assertEqual(shelf.history, before.history)
            return "empty" if not edits else "failed"
        # One hand that makes all calls at once, just ahead.
        twin = shelf.twin()
        other = Hand(twin)
        for call in calls:
            if call[0] == "edit":
                other.change(call[1])
            else:
                self.assertEqual(other.ask(call[1])[0], call[2])
        self.assertEqual(other.commit(), hand.commit())
        self.assertEqual((hand, twin), (other, shelf))
        self.assertEqual((hand.base, hand.calls), (shelf.editions, ()))
        self.assertEqual(shelf.history, before.history + (("edit", edits),))
        self.assertEqual((shelf.chain_at(), shelf.deals_at()), edited(before.chain_at(), before.deals_at(), edits))
        return "let"

    def renew(self, shelf, hand):
        base, calls = hand.base, hand.calls
        failing = fails_at(shelf, calls, False)
        if failing is not None:
            self.assertEqual(raised(self, Refused, hand.renew).reason, ("call", failing))
            self.assertEqual((hand.base, hand.calls), (base, calls))
            return "kept"
        self.assertEqual(hand.renew(), shelf.editions)
        self.assertEqual(hand.base, shelf.editions)
        self.assertEqual(hand.calls, tuple(call for call in calls if call[0] == "edit"))
        return "renewed"

    def test_either_order(self):
        rng = random.Random(2)
        for _ in range(60):
            chain = random_chain(rng, 4, 5)
            shelf = Shelf(chain, random_named(rng, chain, 4))
            ends = []
            for first in (0, 1):
                twin = shelf.twin()
                rows = [Hand(twin), Hand(twin)]
                told = random.Random(_)
                for hand, names in zip(rows, (("a", "b1"), ("two", "z9"))):
                    for _call in range(6):
                        name = told.choice(names)
                        if told.random() < 0.3 and name in hand.deals_now:
                            hand.change(("drop", name))
                        elif told.random() < 0.4 and name in hand.deals_now:
                            hand.ask(("rich", name, told.randint(0, 2)))
                        else:
                            hand.change(("put", name, {(0, 0): told.randint(-3, 3)}))
                edits = [any(call[0] == "edit" for call in hand.calls) for hand in rows]
                for at in (first, 1 - first):
                    if edits[at]:
                        rows[at].commit()
                ends.append((twin.chain_at(), twin.deals_at()))
            self.assertEqual(ends[0], ends[1])

    def test_index_of_renewal(self):
        shelf = Shelf(PAIR, TWO)
        hand = Hand(shelf)
        for call in (("turn", 0), ("turn", 1), ("turn", 0)):
            hand.ask(("rich", "one", 0))
            hand.change(call)
        shelf.edit((("out", 1),))
        self.assertEqual(raised(self, Refused, hand.renew).reason, ("call", 3))
        self.assertEqual(len(hand), 6)
        # A question alone does not keep from renewing, but from committing.
        shelf = Shelf(PAIR, TWO)
        hand = Hand(shelf)
        hand.ask(("rich", "one", 0))
        hand.change(("turn", 0))
        hand.ask(("alike", "one", "two"))
        shelf.edit((("drop", "two"),))
        self.assertEqual(raised(self, Refused, hand.commit).reason, ("call", 2))
        self.assertEqual((hand.renew(), hand.calls), (2, (("edit", ("turn", 0)),)))
        self.assertEqual(hand.commit(), 3)
        self.assertEqual(raised(self, Refused, hand.commit).reason, ("empty",))

    def test_limits(self):
        shelf = Shelf(PAIR, TWO)
        hand = Hand(shelf)
        for _ in range(10):
            hand.change(("turn", 0))
        for edit in (("turn", 0), ("put", "a", {})):
            self.assertEqual(raised(self, TooMany, hand.change, edit).limit, 10)
        self.assertEqual(raised(self, Refused, hand.change, ("turn", 2)).reason, ("edit", "unknown"))
        raised(self, InvalidOperation, hand.change, ("turn", 13))
        for _ in range(30):
            hand.ask(("rich", "one", 1))
        self.assertEqual(raised(self, TooMany, hand.ask, ("rich", "one", 1)).limit, 40)
        raised(self, InvalidOperation, hand.ask, ("rich", "three", 1))
        # More than ten edits are told ahead of more than forty calls.
        self.assertEqual(raised(self, TooMany, hand.change, ("turn", 0)).limit, 10)
        self.assertEqual((str(hand), hand.commit(), len(hand)), ("hand on 1, 40 calls", 2, 0))
        for _ in range(40):
            hand.ask(("rich", "one", 1))
        self.assertEqual(raised(self, TooMany, hand.change, ("turn", 0)).limit, 40)
        self.assertEqual(raised(self, Refused, hand.change, ("drop", "three")).reason, ("edit", "unknown"))
        self.assertEqual(hand.deals_now, shelf.deals_at())
        self.assertEqual(raised(self, Refused, hand.commit).reason, ("empty",))
        self.assertEqual((hand.renew(), len(hand)), (2, 0))

    def test_forty_editions(self):
        shelf = Shelf(PAIR, TWO)
        for _ in range(39):
            shelf.edit((("turn", 0),))
        hand = Hand(shelf)
        self.assertEqual(raised(self, Refused, hand.commit).reason, ("empty",))
        hand.ask(("rich", "one", 0))
        hand.change(("drop", "one"))
        twin = shelf.twin()
        self.assertEqual(raised(self, TooMany, hand.commit).limit, 40)
        self.assertEqual((shelf == twin, hand.base, len(hand)), (True, 40, 2))
        self.assertEqual((hand.renew(), len(hand)), (40, 1))

    def test_words(self):
        hand = Hand(Shelf(PAIR, TWO))
        for edit, word in (
            (("drop", "three"), "unknown"), (("put", "a", {(0, 3): 1}), "place"), (("out", 5), "unknown"),
            (("put", "a", {(0, 0): SHORT - 1, (1, 1): 1}), "great"),
        ):
            self.assertEqual(raised(self, Refused, hand.change, edit).reason, ("edit", word))
            self.assertEqual((len(hand), hand.chain_now), (0, PAIR))
        hand.change(("out", 0))
        self.assertEqual(raised(self, Refused, hand.change, ("out", 0)).reason, ("edit", "few"))

    def test_equal(self):
        shelf = Shelf(PAIR, TWO)
        one, other, far = Hand(shelf), Hand(shelf), Hand(Shelf(PAIR, TWO))
        self.assertEqual((one == other, one != other, one == far), (True, False, True))
        one.change(("turn", 0))
        self.assertEqual((one == other, one != other), (False, True))
        other.change(("turn", 0))
        self.assertEqual(one, other)
        other.ask(("rich", "one", 0))
        self.assertNotEqual(one, other)
        far.change(("turn", 0))
        self.assertEqual(one, far)
        far.commit()
        self.assertNotEqual(one, far)
        shelf.edit((("turn", 0),))
        self.assertNotEqual(one, Hand(shelf))
        for value in PILE:
            self.assertEqual((one == value, one != value), (False, True))

    def test_wrong(self):
        shelf = Shelf(PAIR, TWO)
        check_wrong(self, Hand, (shelf,), ("shelf",))
        hand = Hand(shelf)
        check_wrong(self, hand.ask, (("rich", "one", 1),), ("question",))
        check_wrong(self, Hand(shelf).change, (("turn", 0),), ("edit",))
        for value in NO_EDIT_FORMS + ((("turn", 0),), hand):
            before = copy.deepcopy(hand.calls)
            raised(self, InvalidOperation, hand.change, value)
            self.assertEqual(hand.calls, before)
        raised(self, InvalidOperation, Hand, hand)


if __name__ == "__main__":
    unittest.main()
