import random
import unittest

from ringstairs.errors import InvalidOperation, ParseError, Refused
from ringstairs.house.hands import Hand
from ringstairs.house.log import log_text, read_log
from ringstairs.house.shelf import Shelf
from tests.common import EVEN, LITTLE, NO_TEXTS, PAIR, SHORT, TRIO, TWELVE, check_wrong, raised
from tests.shelves import random_shelf

START = "shelf 3,1 4,1 / one 0,1:1 / two 1,2:3\n"


def slow_log(shelf):
    """The log, piece by piece."""
    lines = ["shelf " + " ".join(f"{n},{s}" for n, s in shelf.chain_at(1))]
    for name in sorted(shelf.deals_at(1)):
        lines[0] += " / " + name + "".join(f" {j},{p}:{v}" for (j, p), v in sorted(shelf.deals_at(1)[name].items()))
    for word, told in shelf.history:
        if word == "pin":
            lines.append("pin " + " ".join(str(piece) for piece in told))
            continue
        rows = []
        for edit in told:
            row = [edit[0], str(edit[1])]
            if edit[0] == "put":
                row += [f"{j},{p}:{v}" for (j, p), v in sorted(edit[2].items())]
            if edit[0] == "ring":
                row.append(f"{edit[2][0]},{edit[2][1]}")
            rows.append(" ".join(row))
        lines.append("edit " + " / ".join(rows))
    return "".join(line + "\n" for line in lines)


class TestLog(unittest.TestCase):
    def test_example(self):
        shelf = Shelf(EVEN, {"two": {(0, 1): 2}, "a": {}})
        shelf.pin(("rich", "two", 1))
        shelf.pin(("some", -3, 2))
        shelf.edit((("ring", 1, (3, 1)), ("put", "none", {}), ("put", "b", {(4, 0): -1, (1, 2): 0})))
        shelf.pin(("alike", "a", "b"))
        shelf.edit((("drop", "a"),))
        shelf.edit((("out", 0), ("turn", 3)))
        text = (
            "shelf 2,1 2,1 2,1 2,1 / a / two 0,1:2\npin rich two 1\npin some -3 2\n"
            "edit ring 1 3,1 / put none / put b 1,2:0 4,0:-1\npin alike a b\nedit drop a\nedit out 0 / turn 3\n")
        self.assertEqual(log_text(shelf), text)
        self.assertEqual(read_log(text), (shelf, len(text)))
        self.assertEqual(log_text(Shelf(PAIR)), "shelf 3,1 4,1\n")
        # Written names at the start, all places as they were handed in an edit.
        shelf = Shelf(PAIR, {"a": {(1, 1): 2, (0, 2): 0}})
        shelf.edit((("put", "a", {(1, 1): 2, (0, 2): 0}),))
        self.assertEqual(log_text(shelf), "shelf 3,1 4,1 / a 0,0:2\nedit put a 0,2:0 1,1:2\n")

    def test_there_and_back(self):
        rng = random.Random(1)
        for _ in range(80):
            shelf = random_shelf(rng, rng.randint(0, 25))
            text = log_text(shelf)
            self.assertEqual(text, slow_log(shelf))
            told, many = read_log(text)
            self.assertEqual((told, many), (shelf, len(text)))
            self.assertEqual((told.history, log_text(told)), (shelf.history, text))
            for number in range(1, len(shelf.claims) + 1):
                self.assertEqual(told.standing(number), shelf.standing(number))

    def test_beginnings(self):
        rng = random.Random(2)
        for _ in range(12):
            shelf = random_shelf(rng, 14)
            text = log_text(shelf)
            behind = [Shelf(shelf.chain_at(1), shelf.deals_at(1))]
            for word, told in shelf.history:
                twin = behind[-1].twin()
                (twin.edit if word == "edit" else twin.pin)(told)
                behind.append(twin)
            for cut in range(len(text) + 1):
                lines = text[:cut].count("\n")
                if lines == 0:
                    self.assertEqual(raised(self, ParseError, read_log, text[:cut]).spot, 0)
                    continue
                told, many = read_log(text[:cut])
                self.assertEqual(many, text[:cut].rfind("\n") + 1)
                self.assertEqual((told, told.history), (behind[lines - 1], behind[lines - 1].history))

    def test_full_shelves(self):
        many = {f"n{at}": {(0, 1): at - 9, (1, 2): (-1) ** at * (SHORT - 1)} for at in range(20)}
        shelf = Shelf(TRIO, many)
        for number in range(20):
            shelf.pin(("rich", f"n{number}", number % 13))
        for _ in range(39):
            shelf.edit((("turn", 0), ("put", "n3", {(2, p): 1 - SHORT for p in range(5)})) * 5)
        text = log_text(shelf)
        self.assertEqual(read_log(text), (shelf, len(text)))
        self.assertTrue(len(text) > 20000)
        self.assertEqual(raised(self, ParseError, read_log, text + "edit turn 0\n").spot, 60)
        self.assertEqual(raised(self, ParseError, read_log, text + "pin rich n1 0\n").spot, 60)
        self.assertEqual(read_log(text + "edit turn 0")[1], len(text))
        self.assertEqual(log_text(Shelf(TWELVE, {}))[:12], "shelf 3,1 4,")

    def test_calls_in_between(self):
        rng = random.Random(3)
        shelf = random_shelf(rng, 4)
        shelf.edit((("put", "a", {}),))
        before = log_text(shelf)
        for call, value in ((shelf.edit, (("drop", "nobody"),)), (shelf.edit, ()), (shelf.pin, ("rich", "nobody", 1))):
            with self.assertRaises((Refused, InvalidOperation)):
                call(value)
        hand = Hand(shelf)
        hand.change(("turn", 0))
        hand.ask(("rich", "a", 0))
        self.assertEqual(log_text(shelf), before)
        hand.commit()
        self.assertEqual(log_text(shelf), before + "edit turn 0\n")

    def test_wrong_lines(self):
        good = ("edit turn 0", "edit drop one", "pin rich one 0", "pin some 1 0", "pin alike one two", "edit put a 1,1:0")
        wrong = (
            "", " ", "edit", "edit ", "pin", "edit turn", "edit turn 0 ", " edit turn 0", "edit  turn 0", "edit turn  0",
            "edit turn 00", "edit turn -0", "edit turn +0", "edit turn 2", "edit turn 13", "edit turn 0 1", "edit turn a",
            "edit drop three", "edit drop", "edit drop One", "edit drop one two", "edit put", "edit put a 0,1", "edit put A",
            "edit put a 0,1:1 0,0:1", "edit put a 0,1:1 0,1:1", "edit put a 0,1:01", "edit put a 0,1:-0", "edit put a 0,3:1",
            "edit put a 00,1:1", "edit put a 0,1:1,", "edit put a = 0,1:1", "edit put a 0,1:" + "9" * 51,
            "edit put a 0,1:" + "9" * 5000, "edit put a 0,1:1 /", "edit / turn 0", "edit turn 0 /", "edit turn 0 / / turn 0",
            "edit turn 0/turn 0", "edit ring 0 3", "edit ring 0 3,3", "edit ring 0 03,1", "edit ring 3 3,1",
            "edit ring 0 3,1,1", "edit ring 0", "edit out 0 / out 0", "edit out", "edit flip 0", "edit turn 0\t", "turn 0",
            "pin rich one", "pin rich one 00", "pin rich one 13", "pin rich three 1", "pin like one two", "pin some 61 0",
            "pin some 1", "pin alike one", "pin alike one two two", "pin rich one 1 ", "shelf 3,1 4,1", "ask rich one 1",
            "edit " + " / ".join(["turn 0"] * 11), "EDIT turn 0", "edit turn \u0660", "edit turn 0\r", "pin rich one one",
        )
        for line in good:
            self.assertEqual(read_log(START + line + "\n")[1], len(START + line) + 1)
        for line in wrong:
            self.assertEqual(raised(self, ParseError, read_log, START + line + "\n").spot, 1)
            text = START + good[0] + "\n" + good[2] + "\n" + line + "\n" + line + "\nnonsense\n"
            self.assertEqual(raised(self, ParseError, read_log, text).spot, 3)
            # Behind the last newline nothing is read.
            self.assertEqual(read_log(START + line)[1], len(START))

    def test_wrong_starts(self):
        wrong = (
            "", " ", "shelf", "shelf ", "shelf  3,1", " shelf 3,1", "shelf 3,1 ", "shelf 3,3", "shelf 3,01", "shelf 3", "3,1",
            "shelf 3,1 /", "shelf 3,1 / ", "shelf 3,1 / A", "shelf 3,1 / a / a", "shelf 3,1 / b / a", "shelf 3,1 / a 0,1:0",
            "shelf 3,1 / a 0,3:1", "shelf 3,1 / a 0,1:1 0,0:1", "shelf 3,1 4,1 / a 1,1:2", "shelf 3,1 / a 0,1:1 0,1:1",
            "shelf 3,1 / a 0,1:" + "9" * 51, "shelf / a", "shelf 3,1 a", "shelf 3,1 / a / ", "shelf 3,1/ a", "shelf 3,1 // a",
            "SHELF 3,1", "shelf " + " ".join(["2,1"] * 13), "shelf 3,1 / " + " / ".join(f"a{at:02}" for at in range(21)),
            "shelf 3,1\t", "shelf 3,1 / 0,1:1", "edit turn 0", "shelf 3,-1", "shelf 3,1 / a 0,-1:1", "shelf 3,1 / a 0,1:--1",
        )
        for line in wrong:
            self.assertEqual(raised(self, ParseError, read_log, line + "\n").spot, 0)
            self.assertEqual(raised(self, ParseError, read_log, line + "\nedit turn 0\n").spot, 0)
        for text in ("", "shelf 3,1", "x" * 20000, "\t"):
            self.assertEqual(raised(self, ParseError, read_log, text).spot, 0)
        self.assertEqual(raised(self, ParseError, read_log, "\n" + START).spot, 0)
        self.assertEqual(raised(self, ParseError, read_log, START + "\n").spot, 1)
        self.assertEqual(read_log(START)[0], Shelf(PAIR, {"one": {(0, 1): 1}, "two": {(1, 2): 3}}))

    def test_one_sign_changed(self):
        rng = random.Random(4)
        for _ in range(6):
            shelf = random_shelf(rng, 6)
            text = log_text(shelf)
            lines = text.split("\n")
            for at in range(len(text)):
                sign = rng.choice("0123456789,:/- abz\n")
                turned = text[:at] + sign + text[at + 1:]
                try:
                    told, many = read_log(turned)
                except ParseError as error:
                    self.assertTrue(0 <= error.spot <= len(lines) + 1)
                    self.assertTrue(error.spot >= text[:at].count("\n"))
                    continue
                whole = turned[:turned.rfind("\n") + 1]
                self.assertEqual((log_text(told), many), (whole, len(whole)))

    def test_wrong(self):
        check_wrong(self, log_text, (LITTLE,), ("shelf",))
        check_wrong(self, read_log, (START,), ("string",))
        for value in NO_TEXTS:
            if not isinstance(value, str):
                self.assertIsNone(raised(self, ParseError, read_log, value).spot)


if __name__ == "__main__":
    unittest.main()
