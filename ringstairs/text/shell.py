"""A shell: lines that are said to a shelf, and its answers."""

from ringstairs.errors import (
    InvalidDeal, InvalidNumber, InvalidOperation, ParseError, Refused, RingError, TooMany, UnknownName,
)
from ringstairs.heap.heaps import heap_of
from ringstairs.house.named import is_name
from ringstairs.house.shelf import Shelf, decide
from ringstairs.link.classes import class_of
from ringstairs.rich.richness import richness
from ringstairs.text.parts import chips_told, integer_told, pair_told, parts_of
from ringstairs.text.texts import dealt, write_chain, write_heap, write_value

MAX_LINE = 2000
MAX_LINES = 40
# What must stand behind the word of a line; behind that of "put" chips may follow.
FORMS = {
    "put": ("name", "="),
    "drop": ("name",),
    "ring": ("integer", "ring"),
    "out": ("integer",),
    "turn": ("integer",),
    "ask": ("question",),
    "pin": ("question",),
    "stand": ("integer",),
    "rich": ("name",),
    "heap": ("name",),
    "class": ("name",),
    "chain": (),
    "names": (),
}
EDITS = ("put", "drop", "ring", "out", "turn")
QUESTIONS = {"alike": ("name", "name"), "rich": ("name", "integer"), "some": ("integer", "integer")}


def slots_behind(told):
    """What must stand in a line that begins with told pieces, those included."""
    if not told:
        return ("word",)
    slots = ("word",) + FORMS[told[0]]
    if "question" in slots and len(told) > 1:
        return slots + QUESTIONS[told[1]]
    return slots


def slot_told(slot, piece):
    """What a piece tells where it stands, None if it cannot stand there."""
    if slot == "word":
        return piece if piece in FORMS else None
    if slot == "question":
        return piece if piece in QUESTIONS else None
    if slot == "name":
        return piece if is_name(piece) else None
    if slot == "integer":
        return integer_told(piece)
    if slot == "ring":
        return pair_told(piece)
    if slot == "chips":
        return chips_told(piece)
    return piece if piece == slot else None


def next_slot(told):
    """What can stand behind the told pieces of a line, None for nothing."""
    slots = slots_behind(told)
    if len(told) < len(slots):
        return slots[len(told)]
    return "chips" if told[0] == "put" else None


def read_line(line):
    """The list of what the pieces of a line tell."""
    told = []
    for index, piece in parts_of(line):
        slot = next_slot(told)
        value = None if slot is None else slot_told(slot, piece)
        if value is None:
            raise ParseError(index)
        told.append(value)
    if told and len(told) < len(slots_behind(told)):
        raise ParseError(len(line))
    return told


def edit_of(told):
    """The edit that a line tells."""
    if told[0] != "put":
        return tuple(told)
    deal = dealt(told[3:])
    if deal is None:
        raise InvalidDeal("a place is told twice")
    return ("put", told[1], deal)


def asked_answer(shelf, question):
    """The answer to a question: its verdict and the text of a paper."""
    verdict, paper = decide(shelf.chain_at(), shelf.deals_at(), question)
    word = "yes" if verdict else "no"
    return f"{word} {write_value(paper)}"


def deal_answer(shelf, word, name):
    """What a line asks about a deal."""
    if name not in shelf:
        raise UnknownName(name)
    chain = shelf.chain_at()
    deal = shelf.deals_at()[name]
    if word == "rich":
        return str(richness(chain, deal))
    degree, places = class_of(chain, deal)
    if word == "heap":
        return write_heap(heap_of(chain, places))
    return " ".join([str(number) for number in (degree,) + places])


def line_answer(shelf, told):
    """Do what a line tells, and return its answer."""
    if not told:
        return ""
    word = told[0]
    if word in EDITS:
        number = shelf.edit((edit_of(told),))
        return f"edition {number}"
    if word == "ask":
        return asked_answer(shelf, tuple(told[1:]))
    if word == "pin":
        number = shelf.pin(tuple(told[1:]))
        return f"claim {number}"
    if word == "stand":
        return shelf.standing(told[1])[0]
    if word == "chain":
        return write_chain(shelf.chain_at())
    if word == "names":
        return " ".join(list(shelf.deals_at()))
    return deal_answer(shelf, word, told[1])


def answer_to(shelf, line):
    """The answer to a line, also if it is not done."""
    try:
        return line_answer(shelf, read_line(line))
    except ParseError as wrong:
        return f"wrong at {wrong.spot}"
    except Refused as against:
        return f"refused {against.reason[2]}"
    except TooMany as over:
        return f"too many {over.limit}"
    except (RingError, InvalidNumber, UnknownName):
        return "invalid"


def is_line(value):
    """Whether the value is a line: printable ASCII characters, not too many."""
    if not isinstance(value, str) or len(value) > MAX_LINE:
        return False
    return all([" " <= sign <= "~" for sign in value])


class Shell:
    """Lines that are said to a shelf."""

    def __init__(self, shelf):
        if not isinstance(shelf, Shelf):
            raise InvalidOperation("no shelf")
        self._shelf = shelf
        self._said = 0

    @property
    def said(self):
        """How many lines were said."""
        return self._said

    def say(self, line):
        """Do what a line tells, and return its answer."""
        if not is_line(line):
            raise InvalidOperation("no line")
        self._said += 1
        return answer_to(self._shelf, line)

    def run(self, lines):
        """The answers of lines, one said after the other."""
        if not isinstance(lines, tuple) or len(lines) > MAX_LINES:
            raise InvalidOperation("no lines")
        if not all([is_line(line) for line in lines]):
            raise InvalidOperation("no lines")
        return tuple([self.say(line) for line in lines])

    def __str__(self):
        return f"shell, {self._said} lines said"
