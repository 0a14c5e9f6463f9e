import random
import unittest

from ringstairs.errors import InvalidOperation
from ringstairs.heap.heaps import heap_of
from ringstairs.house.hands import Hand
from ringstairs.house.log import log_text
from ringstairs.house.shelf import Shelf, decide, is_paper
from ringstairs.link.classes import class_of
from ringstairs.rich.richness import richness
from ringstairs.text import shell as module
from ringstairs.text.shell import Shell
from ringstairs.text.texts import read_value, write_chain, write_deal, write_heap, write_value
from tests.common import NO_LINE_ROWS, NO_LINES, PAIR, SHORT, TRIO, TWELVE, check_wrong, raised
from tests.samples import random_chain
from tests.shelves import random_edit, random_named, random_question

TWO = {"one": {(0, 1): 1}, "two": {(1, 2): 3}}


def edit_line(chain, edit):
    if edit[0] == "put":
        return f"put {edit[1]} = " + write_deal(chain, edit[2])
    if edit[0] == "ring":
        return f"ring {edit[1]} {edit[2][0]},{edit[2][1]}"
    return f"{edit[0]} {edit[1]}"


def blanked(rng, line):
    return " " * rng.randint(0, 2) + "".join(piece + " " * rng.randint(1, 3) for piece in line.split())


class TestShell(unittest.TestCase):
    def test_example(self):
        self.assertEqual(module.MAX_LINE, 2000)
        shelf = Shelf(PAIR, TWO)
        shell = Shell(shelf)
        self.assertEqual((shell.said, str(shell)), (0, "shell, 0 lines said"))
        self.assertEqual(
            shell.run((
                "chain", "names", "rich one", "heap two", "class two", "put none =", "put a = 1,1:2  0,1:0", "ask alike one one",
                "ask rich one 1", "pin rich one 1", "drop two", "ring 0 5,2", "turn 1", "out 2", "stand 1", "names", "chain", "", " ",
            )),
            (
                "3,1 4,1", "one two", str(richness(PAIR, TWO["one"])), write_heap(heap_of(PAIR, class_of(PAIR, TWO["two"])[1])),
                "3 0 1", "edition 2", "edition 3", "yes {}", "no " + write_value(decide(PAIR, TWO, ("rich", "one", 1))[1]),
                "claim 1", "edition 4", "edition 5", "edition 6", "edition 7", shelf.standing(1)[0], "a none one", "5,2 3,2", "", "",
            ),
        )
        self.assertEqual((shell.said, str(shell), shelf.editions), (19, "shell, 19 lines said", 7))
        # The deal is told as it was said.
        self.assertIn("edit put a 0,1:0 1,1:2\n", log_text(shelf))

    def answer(self, twin, line):
        """The answer to a right line, by the one call of a twin of the shelf."""
        pieces = line.split()
        if not pieces:
            return ""
        word, chain, deals = pieces[0], twin.chain_at(), twin.deals_at()
        if word in ("rich", "heap", "class"):
            degree, places = class_of(chain, deals[pieces[1]])
            if word == "rich":
                return str(richness(chain, deals[pieces[1]]))
            return write_heap(heap_of(chain, places)) if word == "heap" else " ".join(map(str, (degree,) + places))
        if word == "chain":
            return write_chain(chain)
        return " ".join(sorted(deals))

    def test_each_line(self):
        rng = random.Random(1)
        for _ in range(60):
            chain = random_chain(rng, 5, 6)
            shelf = Shelf(chain, {"zero": {}, **random_named(rng, chain, 3)})
            shell = Shell(shelf)
            for many in range(30):
                twin = shelf.twin()
                chain, deals = shelf.chain_at(), shelf.deals_at()
                kind = rng.choice(("edit", "ask", "pin", "tell", "stand"))
                if kind == "edit":
                    edit = random_edit(rng, chain, deals)
                    told = shell.say(blanked(rng, edit_line(chain, edit)))
                    self.assertEqual(told, self.call(lambda: f"edition {twin.edit((edit,))}"))
                elif kind == "ask":
                    question = random_question(rng, chain, deals)
                    told = shell.say(blanked(rng, "ask " + " ".join(map(str, question))))
                    self.check_asked(chain, deals, question, told)
                elif kind == "pin":
                    question = random_question(rng, chain, deals)
                    told = shell.say(blanked(rng, "pin " + " ".join(map(str, question))))
                    self.assertEqual(told, self.call(lambda: f"claim {twin.pin(question)}"))
                elif kind == "stand":
                    number = rng.randint(0, len(shelf.claims) + 1)
                    told = shell.say(f"stand {number}")
                    self.assertEqual(told, self.call(lambda: twin.standing(number)[0]))
                else:
                    word = rng.choice(("chain", "names", "", "rich", "heap", "class"))
                    name = rng.choice(list(deals) + ["nobody"]) if word in ("rich", "heap", "class") else ""
                    told = shell.say(blanked(rng, f"{word} {name}"))
                    self.assertEqual(told, "invalid" if name == "nobody" else self.answer(twin, f"{word} {name}"))
                self.assertEqual((shelf == twin, shelf.history == twin.history), (True, True))
                self.assertEqual(shell.said, many + 1)

    def call(self, deed):
        """The answer that the call of the twin asks for."""
        try:
            return deed()
        except ArithmeticError as error:
            if hasattr(error, "limit"):
                return f"too many {error.limit}"
            return f"refused {error.reason[2]}"
        except (ValueError, IndexError):
            return "invalid"

    def check_asked(self, chain, deals, question, told):
        try:
            verdict, paper = decide(chain, deals, question)
        except InvalidOperation:
            self.assertEqual(told, "invalid")
            return
        word, text = told.split(" ", 1)
        self.assertEqual((word, text), ("yes" if verdict else "no", write_value(paper)))
        self.assertIs(is_paper(chain, deals, question, verdict, read_value(text)), True)

    def test_wrong_pieces(self):
        shelf = Shelf(PAIR, TWO)
        shell = Shell(shelf)
        rows = (
            ("nonsense", 0), ("  Chain", 2), ("chain  x", 7), ("names 1", 6), ("put", 3), ("put ", 4), ("put  A = 0,1:1", 5),
            ("put a", 5), ("put a  ", 7), ("put a 0,1:1", 6), ("put a == 0,1:1", 6), ("put a = 0,1", 8), ("put a = 0,1:1 x", 14),
            ("put a = 0,1:1  0,01:1 y", 15), ("put a =0,1:1", 6), ("put a = = 0,1:1", 8), ("put a = 0,1:" + "9" * 61, 8), ("drop", 4),
            ("drop Two", 5), ("drop two one", 9), ("drop abcdefghi", 5), ("drop 1a", 5), ("ring", 4), ("ring 0", 6), ("ring 0 ", 7),
            ("ring x 3,1", 5), ("ring 00 3,1", 5), ("ring 0 3", 7), ("ring 0 3,1,1", 7), ("ring 0 3,01", 7), ("ring 0 3,1 4,1", 11),
            ("ring 3,1 0", 5), ("ring -0 3,1", 5), ("out", 3), ("out x", 4), ("out 0 1", 6), ("out +1", 4), ("turn", 4), ("turn 0,1", 5),
            ("turn 0 x", 7), ("out " + "9" * 61, 4), ("ask", 3), ("ask ", 4), ("ask like one two", 4), ("ask alike", 9),
            ("ask alike one", 13), ("ask alike one 2", 14), ("ask alike one two two", 18), ("ask rich 1 one", 9), ("ask rich one", 12),
            ("ask rich one one", 13), ("ask rich one 1 1", 15), ("ask some one 1", 9), ("ask some 1", 10), ("ask some 1 x", 11),
            ("ask some 1 1 1", 13), ("pin", 3), ("pin foo", 4), ("pin rich", 8), ("pin rich one 01", 13), ("pin some 1 1 x", 13),
            ("stand", 5), ("stand x", 6), ("stand 1 1", 8), ("rich", 4), ("rich 1", 5), ("rich one 1", 9), ("heap", 4), ("heap -", 5),
            ("class", 5), ("class one two", 10), ("class ONE", 6), ("=", 0), ("ask put", 4), ("PUT a =", 0), ("edit turn 0", 0),
            ("ask rich one -", 13), ("ask rich ' 1", 9), ("ask some -0 1", 9), ("pin alike one ", 14), ("(", 0), ("rich ~", 5),
        )
        history = shelf.history
        for line, spot in rows:
            self.assertEqual(shell.say(line), f"wrong at {spot}", line)
            self.assertEqual(shell.say("   " + line), f"wrong at {spot + 3}", line)
        self.assertEqual((shelf.history, shelf, shelf.claims), (history, Shelf(PAIR, TWO), ()))
        self.assertEqual(shell.said, 2 * len(rows))

    def test_other_answers(self):
        shelf = Shelf(PAIR, TWO)
        shell = Shell(shelf)
        rows = (
            ("drop three", "refused unknown"), ("out 2", "refused unknown"), ("turn 12", "refused unknown"),
            ("ring 3 3,1", "refused unknown"), ("put a = 0,3:1", "refused place"), ("put a = 5,0:0", "refused place"),
            (f"put a = 0,0:{SHORT - 1} 1,1:1", "refused great"), (f"put a = 0,0:{SHORT}", "invalid"),
            ("put a = 60,0:1", "invalid"), ("put a = 0,-1:1", "invalid"), ("put a = 0,1:1 0,1:1", "invalid"),
            ("put a = 0,9:1 0,9:2", "invalid"), ("put a = 0,1:1 1,1:1 0,1:2", "invalid"), ("out 13", "invalid"), ("out -1", "invalid"),
            ("turn " + "9" * 60, "invalid"), ("ring 13 3,1", "invalid"), ("ring 0 3,3", "invalid"), ("ring 0 61,1", "invalid"),
            ("ring 0 -3,1", "invalid"), ("ask alike one three", "invalid"), ("ask rich three 1", "invalid"),
            ("ask rich one 13", "invalid"), ("ask rich one -1", "invalid"), ("ask some 61 0", "invalid"), ("ask some -60 12", "invalid"),
            ("ask some -41 0", "invalid"), ("pin rich three 1", "invalid"), ("pin some 0 13", "invalid"), ("pin alike a b", "invalid"),
            ("stand 1", "invalid"), ("stand 0", "invalid"), ("stand -1", "invalid"), ("rich three", "invalid"), ("heap three", "invalid"),
            ("class three", "invalid"), ("rich chain", "invalid"),
        )
        for line, answer in rows:
            self.assertEqual(shell.say(line), answer, line)
        self.assertEqual((shelf.history, shelf), ((), Shelf(PAIR, TWO)))
        # What is wrong as a piece comes first.
        self.assertEqual(shell.say("put a = 0,1:1 0,1:1 x"), "wrong at 20")
        self.assertEqual(shell.say("drop three x"), "wrong at 11")
        self.assertEqual(shell.say("rich three 1"), "wrong at 11")

    def test_words(self):
        shell = Shell(Shelf(PAIR[:1], {}))
        self.assertEqual(shell.say("out 0"), "refused few")
        shell = Shell(Shelf(TWELVE))
        self.assertEqual(shell.say("ring 0 3,1"), "refused many")
        shelf = Shelf(PAIR, {f"n{at}": {} for at in range(20)})
        shell = Shell(shelf)
        self.assertEqual((shell.say("put a ="), shell.say("put n19 = 0,1:1")), ("refused many", "edition 2"))
        self.assertEqual(shell.say("put a = 0,3:1"), "refused place")

    def test_too_many(self):
        shelf = Shelf(PAIR, TWO)
        shell = Shell(shelf)
        self.assertEqual(shell.run(("pin rich one 1",) * 21), tuple(f"claim {at}" for at in range(1, 21)) + ("too many 20",))
        self.assertEqual(shell.run(("turn 0",) * 40), tuple(f"edition {at}" for at in range(2, 41)) + ("too many 40",))
        self.assertEqual(shell.say("drop three"), "refused unknown")
        self.assertEqual(shell.say("pin rich three 1"), "invalid")
        self.assertEqual((shell.said, len(shelf.history)), (63, 59))

    def test_lines(self):
        shelf = Shelf(PAIR, TWO)
        shell = Shell(shelf)
        self.assertEqual(shell.say("names" + " " * 1995), "one two")
        self.assertEqual(shell.say(" " * 2000), "")
        self.assertEqual(shell.say("x" * 2000), "wrong at 0")
        self.assertEqual(shell.say("".join(map(chr, range(32, 127)))), "wrong at 1")
        for line in NO_LINES + ("names\t", "\u00e9", "names\r", "names\x7f", "names\u00a0", "n\u0430mes"):
            raised(self, InvalidOperation, shell.say, line)
            raised(self, InvalidOperation, shell.run, ("turn 0", line))
        for lines in NO_LINE_ROWS:
            raised(self, InvalidOperation, shell.run, lines)
        # What is no line is told ahead of all: no line was said.
        self.assertEqual((shell.said, shelf.history), (4, ()))
        self.assertEqual((shell.run(()), shell.said), ((), 4))
        self.assertEqual((len(shell.run(("",) * 40)), shell.said), (40, 44))
        self.assertEqual(str(shell), "shell, 44 lines said")
        with self.assertRaises(TypeError):
            iter(shell)

    def test_names(self):
        # Words of the shell are names, too.
        shell = Shell(Shelf(TRIO))
        self.assertEqual(shell.run(("names", "put put =", "put alike = 0,1:1", "names", "ask alike put alike", "rich put", "drop put")), (
            "", "edition 2", "edition 3", "alike put", "no ((0 (0 2 1)) (1 (1 0 4)))", "0", "edition 4"))
        self.assertEqual(shell.say("heap alike"), write_heap(heap_of(TRIO, class_of(TRIO, {(0, 1): 1})[1])))

    def test_keeps_the_shelf(self):
        shelf = Shelf(PAIR, TWO)
        one, other, hand = Shell(shelf), Shell(shelf), Hand(shelf)
        self.assertEqual((one.say("drop one"), other.say("names")), ("edition 2", "two"))
        self.assertEqual((one.said, other.said), (1, 1))
        hand.change(("turn", 0))
        self.assertEqual((hand.commit(), one.say("chain")), (3, "3,2 4,1"))
        twin = shelf.twin()
        one.say("drop two")
        self.assertEqual((len(shelf), len(twin)), (0, 1))

    def test_wrong(self):
        check_wrong(self, Shell, (Shelf(PAIR),), ("shelf",))
        check_wrong(self, Shell(Shelf(PAIR)).say, ("names",), ("line",))
        check_wrong(self, Shell(Shelf(PAIR)).run, (("names", ""),), ("lines",))
        raised(self, InvalidOperation, Shell, Shell(Shelf(PAIR)))


if __name__ == "__main__":
    unittest.main()
