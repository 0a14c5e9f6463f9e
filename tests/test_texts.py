import random
import unittest

from ringstairs.errors import InvalidChain, InvalidDeal, InvalidHeap, InvalidOperation, ParseError
from ringstairs.house.shelf import decide
from ringstairs.text.texts import (
    read_chain, read_deal, read_heap, read_value, write_chain, write_deal, write_heap, write_value,
)
from tests.common import (
    EVEN, LONG, MOST, NO_TEXTS, NO_TOLD, PAIR, TRIO, TWELVE, check_wrong, nested, raised,
)
from tests.samples import random_chain, random_deal, random_heap
from tests.shelves import random_named, random_question


def random_value(rng, depth):
    kind = rng.choice(("none", "integer", "great", "dict", "tuple", "tuple"))
    if kind == "none":
        return None
    if kind == "integer":
        return rng.randint(-12, 12)
    if kind == "great":
        return rng.choice((-1, 1)) * rng.randrange(10 ** rng.randint(1, 60))
    if kind == "dict":
        return {(rng.randrange(60), rng.randrange(60)): rng.randint(-99, 99) for _ in range(rng.randint(0, 4))}
    return tuple(random_value(rng, depth - 1) for _ in range(rng.randint(0, 3))) if depth else 0


def blanked(rng, text):
    """The text with other numbers of blanks."""
    pieces = [piece + " " * rng.randint(1, 3) for piece in text.split()]
    return " " * rng.randint(0, 3) + "".join(pieces)[:None if rng.random() < 0.5 else -1]


class TestPlainTexts(unittest.TestCase):
    def test_example(self):
        self.assertEqual(
            [
                write_chain(PAIR), write_deal(PAIR, {(1, 2): -1, (0, 0): 3}), read_heap(" 3 1"),
                write_value((1, (None, -3), {(0, 1): 2})), read_deal(PAIR, "0,1:0"),
            ],
            ["3,1 4,1", "0,0:3 1,2:-1", (3, 1), "(1 (none -3) {0,1:2})", {(0, 1): 0}],
        )

    def test_there_and_back(self):
        rng = random.Random(1)
        for _ in range(200):
            chain = random_chain(rng, 12, 60)
            text = write_chain(chain)
            self.assertEqual(text, " ".join(f"{n},{s}" for n, s in chain))
            deal = random_deal(rng, chain, rng.choice((1, 9, MOST)))
            row = [f"{j},{p}:{v}" for (j, p), v in sorted(deal.items())]
            heap = random_heap(rng, 9, 60)
            self.assertEqual((write_deal(chain, deal), write_heap(heap)), (" ".join(row), " ".join(map(str, heap))))
            for told in (text, blanked(rng, text)):
                self.assertEqual(read_chain(told), chain)
            rng.shuffle(row)
            for told in (write_deal(chain, deal), " ".join(row), blanked(rng, " ".join(row))):
                self.assertEqual(read_deal(chain, told), deal)
                self.assertEqual(list(read_deal(chain, told)), sorted(deal))
            self.assertEqual(read_heap(blanked(rng, write_heap(heap))), heap)

    def test_edges(self):
        self.assertEqual((write_deal(PAIR, {}), read_deal(PAIR, ""), read_deal(PAIR, "   ")), ("", {}, {}))
        self.assertEqual((write_heap(()), read_heap(""), read_heap("  ")), ("", (), ()))
        raised(self, InvalidChain, read_chain, "")
        raised(self, InvalidChain, read_chain, "  ")
        deal = {(0, 1): 0, (1, 1): MOST, (0, 0): -MOST, (1, 2): 0}
        self.assertEqual(read_deal(PAIR, write_deal(PAIR, deal)), deal)
        self.assertEqual(write_deal(PAIR, {(0, 0): 0}), "0,0:0")
        self.assertEqual(read_chain(write_chain(TWELVE)), TWELVE)
        self.assertEqual(read_heap(write_heap((60,) * 60)), (60,) * 60)
        # Both names of a joint are two places.
        self.assertEqual(read_deal(PAIR, "1,1:2 0,0:1"), {(0, 0): 1, (1, 1): 2})

    def test_long_texts(self):
        blanks = " " * (20000 - len("3,1"))
        self.assertEqual(read_chain(blanks + "3,1"), ((3, 1),))
        self.assertEqual(read_deal(PAIR, "0,1:7" + " " * 19995), {(0, 1): 7})
        for call in (read_chain, read_heap, lambda text: read_deal(PAIR, text)):
            self.assertIsNone(raised(self, ParseError, call, " " * 20001).spot)
            self.assertIsNone(raised(self, ParseError, call, blanks + "3,1 ").spot)
        raised(self, InvalidHeap, read_heap, "1 " * 10000)
        self.assertEqual(raised(self, ParseError, read_heap, "x" * 20000).spot, 0)

    def test_wrong_pieces(self):
        rings = ("3", "3,", ",1", "3,1,1", "03,1", "3,01", "-0,1", "3,-0", "+3,1", "3,+1", "3.1", "3;1", "3,a", "a", "3, 1",
                 "3,1:1", "--3,1", "-,1", "3,1\t", "\t", "\n", "3,\u0661", "3\u00b2,1", "9" * 61 + ",1", "3," + "9" * 5000, "_3,1")
        for piece in rings:
            for ahead in ("", "3,1 ", "   3,1   4,1  "):
                for behind in ("", " ", " x", " 3,3"):
                    spot = len(ahead)
                    self.assertEqual(raised(self, ParseError, read_chain, ahead + piece + behind).spot, spot)
        chips = ("0,1", "0,1:", ":1", "0:1", "0,1:1:1", "0,1,1:1", "00,1:1", "0,01:1", "0,1:01", "0,1:-0", "-0,1:1", "0,1:+1",
                 "0,1:a", "x", "0,1:\t", "0,1:" + "9" * 61, "0,1:1,", "0,1;1", "0.1:1", "0,1:--1", "0, 1:1", "0,1 :1")
        for piece in chips:
            for ahead in ("", "0,1:2 ", "  2,0:1   0,0:0 "):
                self.assertEqual(raised(self, ParseError, read_deal, PAIR, ahead + piece + " 0").spot, len(ahead))
        for piece in ("a", "03", "-0", "+3", "3,1", "3.", "-", "--1", "9" * 61, "-" + "9" * 61, "3\t", "\u0663"):
            for ahead in ("", "3 ", "  -1  0 "):
                self.assertEqual(raised(self, ParseError, read_heap, ahead + piece + " x").spot, len(ahead))

    def test_wrong_values(self):
        # Right pieces that tell no chain, no deal, no heap.
        for text in ("3,3", "1,1", "61,1", "3,0", "-3,1", "3,-1", "9" * 60 + ",1", "2,1 " * 13, "3,1 0,0"):
            raised(self, InvalidChain, read_chain, text)
        for text in ("0,3:1", "2,0:1", "-1,0:1", "0,-1:1", "0,1:1 0,1:1", "0,1:1 1,2:0 0,1:2", "9,9:9", "0,1:0 " + "9" * 60 + ",1:1"):
            raised(self, InvalidDeal, read_deal, PAIR, text)
        for text in ("0", "1 2", "-1", "61", "3 0", "1 " * 61, "9" * 60, "3 2 2 3"):
            raised(self, InvalidHeap, read_heap, text)

    def test_wrong(self):
        check_wrong(self, write_chain, (PAIR,), ("chain",))
        check_wrong(self, write_deal, (PAIR, {(0, 1): 1}), ("chain", "deal"))
        check_wrong(self, write_heap, ((2, 1),), ("heap",))
        check_wrong(self, read_chain, ("3,1",), ("text",))
        check_wrong(self, read_deal, (PAIR, "0,1:1"), ("chain", "text"))
        check_wrong(self, read_heap, ("2 1",), ("text",))
        check_wrong(self, write_value, (1,), ("told",))
        check_wrong(self, read_value, ("1",), ("text",))


def slow_next(text):
    """Whether some text of a told value begins so, and whether this is one, sign by sign, without the ascending of pairs.

    The states: what is open, and what may come.
    """
    figures, open_ones, state = "0123456789", [], "value"
    run = ""
    for sign in text:
        state, run, right = slow_step(sign, state, run, open_ones, figures)
        if not right:
            return False, False
    whole = not open_ones and (state in ("behind", "zero") or (state == "figures" and run not in ("", "-")))
    return True, whole


def slow_step(sign, state, run, open_ones, figures):
    """One sign more: the triple of the state, the run of a number, and whether the sign is right."""
    if state in ("figures", "zero"):
        if state == "figures" and sign in figures:
            count = len(run.replace("-", ""))
            if run == "-" and sign == "0":
                return state, run, False
            return state, run + sign, count < 60
        if run == "-":
            return state, run, False
        state = "behind"
    if state in ("value", "first"):
        if state == "first" and sign == ")":
            open_ones.pop()
            return "behind", "", True
        if sign == "(":
            open_ones.append("(")
            return "first", "", open_ones.count("(") <= 8
        if sign == "{":
            open_ones.append("{")
            return "pair or end", "", True
        if sign == "n":
            return "one", "", True
        return slow_number(sign, figures)
    if state in ("one", "non"):
        wanted, then = {"one": ("o", "non"), "non": ("n", "none")}[state]
        return then, "", sign == wanted
    if state == "none":
        return "behind", "", sign == "e"
    if state in ("pair or end", "pair", "second"):
        if state == "pair or end" and sign == "}":
            open_ones.pop()
            return "behind", "", True
        return ("number 1" if state != "second" else "number 2"), sign, sign in figures
    if state in ("number 1", "number 2"):
        if sign in figures:
            return state, run + sign, run != "0" and len(run) == 1 and int(run + sign) <= 59
        if state == "number 1":
            return "second", "", sign == ","
        return "chips", "", sign == ":"
    if state == "chips":
        return slow_number(sign, figures)
    # Behind a member, or behind the number of a pair.
    if not open_ones:
        return state, "", False
    if sign == " ":
        return ("pair" if open_ones[-1] == "{" else "value"), "", True
    right = sign == {"(": ")", "{": "}"}[open_ones.pop()]
    return "behind", "", right


def slow_number(sign, figures):
    if sign == "0":
        return "zero", "0", True
    return "figures", sign, sign == "-" or sign in figures


def slow_spot(text):
    """The index at which a text is wrong, None if it is right, without the ascending of pairs."""
    for at in range(1, len(text) + 1):
        if not slow_next(text[:at])[0]:
            return at - 1
    return None if slow_next(text)[1] else len(text)


class TestValues(unittest.TestCase):
    def test_there_and_back(self):
        rng = random.Random(2)
        for _ in range(400):
            value = random_value(rng, rng.randint(0, 8))
            text = write_value(value)
            self.assertEqual(text, self.slow_text(value))
            told = read_value(text)
            self.assertEqual(repr(told), repr(self.ordered(value)))
            self.assertEqual(told, value)

    def slow_text(self, value):
        if isinstance(value, tuple):
            return "(" + " ".join(map(self.slow_text, value)) + ")"
        if isinstance(value, dict):
            return "{" + " ".join(f"{j},{p}:{value[j, p]}" for j, p in sorted(value)) + "}"
        return "none" if value is None else str(value)

    def ordered(self, value):
        if isinstance(value, tuple):
            return tuple(map(self.ordered, value))
        return {place: value[place] for place in sorted(value)} if isinstance(value, dict) else value

    def test_papers(self):
        rng = random.Random(3)
        for _ in range(100):
            chain = random_chain(rng, 5, 6)
            deals = {"a": {}, **random_named(rng, chain, 3)}
            verdict, paper = decide(chain, deals, random_question(rng, chain, deals))
            self.assertEqual(read_value(write_value(paper)), paper)

    def test_edges(self):
        for value, text in (
            (None, "none"), (0, "0"), (-7, "-7"), ((), "()"), ({}, "{}"), (((),), "(())"), (({}, None), "({} none)"),
            (MOST, "9" * 60), (-MOST, "-" + "9" * 60), ({(59, 59): 0, (0, 0): -1}, "{0,0:-1 59,59:0}"),
            (nested(8), "((((((((1))))))))"), ({(9, 10): 1, (10, 9): MOST}, "{9,10:1 10,9:" + "9" * 60 + "}"),
            (((((((({(1, 2): 3},),),),),),),), "((((((({1,2:3})))))))"),
        ):
            self.assertEqual((write_value(value), read_value(text)), (text, value))
        for value in NO_TOLD:
            raised(self, InvalidOperation, write_value, value)
        eight = ((((((({(1, 2): 3}, 1),),),),),),)
        self.assertEqual(read_value(write_value((eight,))), (eight,))
        raised(self, InvalidOperation, write_value, (((((((((),),),),),),),),))

    def test_spots(self):
        for text, spot in (
            ("", 0), (" ", 0), ("1 ", 1), (" 1", 0), ("01", 1), ("-", 1), ("-0", 1), ("-01", 1), ("+1", 0), ("1a", 1), ("none ", 4),
            ("non", 3), ("nope", 2), ("None", 0), ("(", 1), ("( ", 1), ("(1", 2), ("(1 ", 3), ("(1  2)", 3), ("(1 )", 3), ("()", None),
            ("())", 2), (")", 0), ("(1,2)", 2), ("(none1)", 5), ("(1(2))", 2), ("1 2", 1), ("{", 1), ("{ }", 1), ("{}}", 2),
            ("{0", 2), ("{0,", 3), ("{0,1", 4), ("{0,1:", 5), ("{0,1:2", 6), ("{0,1:2 ", 7), ("{0,1:2 }", 7), ("{0,1:02}", 6),
            ("{00,1:2}", 2), ("{0,00:2}", 4), ("{60,1:2}", 2), ("{59,1:2}", None), ("{61", 2), ("{7,65:1}", 4), ("{123,1:1}", 3),
            ("{0,123:1}", 5), ("{-1,0:1}", 1), ("{0,-1:1}", 3), ("{0:1}", 2), ("{0,1 1}", 4), ("{a,1:1}", 1), ("{0,1:-}", 6),
            ("{0,1:-0}", 6), ("{0,1:2  1,1:1}", 7), ("{0,1:2 1,1:1)", 12), ("(1}", 2), ("9" * 61, 60), ("-" + "9" * 61, 61),
            ("(" + "9" * 61 + ")", 61), ("{0,1:" + "9" * 61 + "}", 65), ("(" * 9, 8), ("(" * 8 + "1" + ")" * 8, None),
            ("(" * 8 + "(", 8), ("(1 " * 8 + "(", 24), ("\t", 0), ("(\n)", 1), ("True", 0), ("[1]", 0), ("(" * 20000, 8),
        ):
            if spot is None:
                self.assertEqual(write_value(read_value(text)), text)
            else:
                self.assertEqual(raised(self, ParseError, read_value, text).spot, spot, text)
            self.assertEqual(slow_spot(text[:200]), spot, text)

    def test_pairs_that_do_not_ascend(self):
        for text, spot in (
            ("{0,1:1 0,1:1}", 7), ("{0,1:1 0,0:1}", 7), ("{0,1:1 0,1", 7), ("{0,1:1 0,0", 7), ("{1,0:1 0,9", 7), ("{1,0:1 0", 8),
            ("{1,0:1 0,", 9), ("{1,0:1 0,x", 9), ("{1,0:1 0x", 8), ("{0,1:1 0,1x", 7), ("{0,1:1 0,1 ", 7), ("{0,1:1 0,10", 11),
            ("{0,10:1 0,1", 8), ("{0,10:1 0,10", 8), ("{0,10:1 0,100", 12), ("{0,10:1 0,9:", 8), ("{0,5:1 0,05", 10),
            ("{0,7:1 0,65", 10), ("{0,7:1 0,6", 7), ("{0,59:1 0,59:x", 8), ("{0,1:1 0,2:1 0,2:1}", 13), ("{5,5:1 4,60:1}", 10),
            ("({0,1:1 0,1:1})", 8), ("{0,1:1 0,1)", 7), ("{2,0:5 1,600", 10), ("{0,1:1x0,0:1}", 6), ("{0,1:1 0,1:1", 7),
            ("(1 {3,3:3 3,2", 10), ("{10,0:1 9,59", 8), ("{10,0:1 9,590", 12), ("{10,0:1 9,5", 8),
        ):
            self.assertEqual(raised(self, ParseError, read_value, text).spot, spot, text)

    def test_beginnings(self):
        rng = random.Random(4)
        for _ in range(60):
            value = (random_value(rng, rng.randint(0, 7)),) if rng.random() < 0.8 else {(1, 2): 3, (1, 20): -4, (20, 1): 5}
            text = write_value(value)
            for at in range(len(text)):
                caught = None
                try:
                    told = read_value(text[:at])
                except ParseError as error:
                    caught = error.spot
                if caught is None:
                    self.assertEqual(write_value(told), text[:at])
                elif caught != at:
                    # A pair that does not ascend as long as its last digit is missing.
                    self.assertTrue(at - 5 <= caught < at)
                    self.assertEqual(raised(self, ParseError, read_value, text[:at]).spot, text[:at].rfind(" ") + 1)

    def test_beginnings_that_always_go_on(self):
        text = "(none (1 -20 {0,1:2 3,4:-500 9,9:0}) () {} (((0))) " + "7" * 60 + ")"
        self.assertEqual(write_value(read_value(text)), text)
        for at in range(len(text)):
            self.assertEqual(raised(self, ParseError, read_value, text[:at]).spot, at)

    def test_one_sign_changed(self):
        rng = random.Random(5)
        for _ in range(60):
            text = write_value((random_value(rng, rng.randint(0, 6)), {(0, 1): 10, (2, 0): -3, (2, 10): 0}))
            for at in range(len(text)):
                turned = text[:at] + rng.choice("0123456789,:-(){} nonex\t") + text[at + 1:]
                spot = slow_spot(turned)
                try:
                    told, caught = read_value(turned), None
                    self.assertEqual(write_value(told), turned)
                except ParseError as error:
                    caught = error.spot
                if caught != spot:
                    # A pair that does not ascend, ahead of what else is wrong.
                    self.assertTrue(caught < (len(turned) if spot is None else spot + 1))
                    self.assertIn(turned[caught - 1], " {")
                    self.assertTrue(turned[caught].isdigit())

    def test_long_texts(self):
        text = "(" + "1 " * 9998 + "10)"
        self.assertEqual(len(text), 20000)
        self.assertEqual(len(read_value(text)), 9999)
        self.assertIsNone(raised(self, ParseError, read_value, text + " ").spot)
        self.assertEqual(raised(self, ParseError, read_value, text[:-1] + " ").spot, 20000)
        for value in NO_TEXTS:
            self.assertIsNone(raised(self, ParseError, read_value, value).spot)
        self.assertTrue(len(write_value((MOST,) * 400)) > 20000 and LONG > MOST)
        self.assertEqual(read_chain(write_chain(EVEN + TRIO)), EVEN + TRIO)


if __name__ == "__main__":
    unittest.main()
