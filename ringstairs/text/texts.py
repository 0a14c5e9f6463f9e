"""Texts of chains, deals, heaps and told values, written and read."""

from ringstairs.basics import DIGITS, is_between, is_integer, is_pair
from ringstairs.errors import InvalidChain, InvalidDeal, InvalidHeap, InvalidOperation, ParseError
from ringstairs.heap.heaps import check_heap, is_heap
from ringstairs.link.chains import MOST_PLACES, check_chain, check_deal, is_chain, lies_dealt
from ringstairs.text.parts import (
    chain_text, chips_told, deal_pieces, integer_told, is_figure, pair_told, parts_of,
)

MOST_CHARACTERS = 20000
MOST_NESTED = 8


def write_chain(chain):
    """The text of the chain."""
    check_chain(chain)
    return chain_text(chain)


def write_deal(chain, deal):
    """The text of the deal, with all of its places."""
    check_chain(chain)
    check_deal(chain, deal)
    return " ".join(deal_pieces(deal))


def heap_text(heap):
    """The text of what surely is a heap."""
    return " ".join([str(height) for height in heap])


def write_heap(heap):
    """The text of the heap."""
    check_heap(heap)
    return heap_text(heap)


def check_text(text):
    """Refuse what is no text, or too long a one."""
    if not isinstance(text, str) or len(text) > MOST_CHARACTERS:
        raise ParseError(None)


def told_or_wrong(told, index):
    """What a piece tells that begins at an index: refuse None."""
    if told is None:
        raise ParseError(index)
    return told


def read_chain(text):
    """The chain that the text tells."""
    check_text(text)
    chain = tuple([told_or_wrong(pair_told(piece), index) for index, piece in parts_of(text)])
    if not is_chain(chain):
        raise InvalidChain("no chain")
    return chain


def dealt(rows):
    """The deal of pairs of a place and its number of chips, None if a place is told twice."""
    deal = {place: number for place, number in sorted(rows)}
    return deal if len(deal) == len(rows) else None


def read_deal(chain, text):
    """The deal on the chain that the text tells."""
    check_chain(chain)
    check_text(text)
    deal = dealt([told_or_wrong(chips_told(piece), index) for index, piece in parts_of(text)])
    if deal is None or not lies_dealt(chain, deal):
        raise InvalidDeal("no deal on this chain")
    return deal


def read_heap(text):
    """The heap that the text tells."""
    check_text(text)
    heap = tuple([told_or_wrong(integer_told(piece), index) for index, piece in parts_of(text)])
    if not is_heap(heap):
        raise InvalidHeap("no heap")
    return heap


def is_spot(value):
    """Whether the value is a pair of integers from 0 to 59."""
    return is_pair(value) and all([is_between(number, 0, MOST_PLACES - 1) for number in value])


def is_told(value, depth):
    """Whether the value is a told value within so many tuples."""
    if isinstance(value, tuple):
        return depth < MOST_NESTED and all([is_told(member, depth + 1) for member in value])
    if isinstance(value, dict):
        return all([is_spot(place) and is_integer(value[place]) for place in value])
    return value is None or is_integer(value)


def value_text(value):
    """The text of what surely is a told value."""
    if value is None:
        return "none"
    if isinstance(value, tuple):
        return "(" + " ".join([value_text(member) for member in value]) + ")"
    if isinstance(value, dict):
        return "{" + " ".join(deal_pieces(value)) + "}"
    return str(value)


def write_value(value):
    """The text of the told value."""
    if not is_told(value, 0):
        raise InvalidOperation("no told value")
    return value_text(value)


def sign_at(text, at):
    """The character at an index, empty behind the end of the text."""
    return text[at:at + 1]


def behind_signs(text, at, signs):
    """The index behind signs that must stand at an index."""
    for sign in signs:
        if sign_at(text, at) != sign:
            raise ParseError(at)
        at += 1
    return at


def behind_figures(text, at, most):
    """The index behind a number of at most so many figures that must begin at an index, without zeros ahead."""
    if not is_figure(sign_at(text, at)):
        raise ParseError(at)
    if sign_at(text, at) == "0":
        return at + 1
    last = at + 1
    while last < at + most and is_figure(sign_at(text, last)):
        last += 1
    return last


def integer_from(text, at):
    """The pair of the integer that begins at an index and of the index behind it."""
    first = at
    if sign_at(text, at) == "-":
        first = at + 1
        if sign_at(text, first) == "0":
            raise ParseError(first)
    last = behind_figures(text, first, DIGITS)
    return (int(text[at:last]), last)


def spot_from(text, at):
    """The pair of the number from 0 to 59 that begins at an index and of the index behind it.

    Behind it no further figure stands.
    """
    last = behind_figures(text, at, 1 if sign_at(text, at) in ("6", "7", "8", "9") else 2)
    if is_figure(sign_at(text, last)):
        raise ParseError(last)
    return (int(text[at:last]), last)


def chips_from(text, at, ahead):
    """The triple of the place that begins at an index, its number of chips, and the index behind it.

    The place must be greater than the one ahead, if there is one.
    """
    ring, comma = spot_from(text, at)
    spot, colon = spot_from(text, behind_signs(text, comma, ","))
    place = (ring, spot)
    if ahead is not None and place <= ahead:
        raise ParseError(at)
    number, last = integer_from(text, behind_signs(text, colon, ":"))
    return (place, number, last)


def deal_from(text, at):
    """The pair of the dict whose pieces begin at an index and of the index behind it."""
    deal = {}
    if sign_at(text, at) == "}":
        return (deal, at + 1)
    place = None
    while True:
        place, number, at = chips_from(text, at, place)
        deal[place] = number
        if sign_at(text, at) == "}":
            return (deal, at + 1)
        at = behind_signs(text, at, " ")


def members_from(text, at, depth):
    """The pair of the tuple whose members begin at an index and of the index behind it."""
    members = []
    if sign_at(text, at) == ")":
        return ((), at + 1)
    while True:
        member, at = value_from(text, at, depth)
        members.append(member)
        if sign_at(text, at) == ")":
            return (tuple(members), at + 1)
        at = behind_signs(text, at, " ")


def value_from(text, at, depth):
    """The pair of the told value that begins at an index, within so many tuples, and of the index behind it."""
    sign = sign_at(text, at)
    if sign == "(" and depth < MOST_NESTED:
        return members_from(text, at + 1, depth + 1)
    if sign == "{":
        return deal_from(text, at + 1)
    if sign == "n":
        return (None, behind_signs(text, at, "none"))
    return integer_from(text, at)


def read_value(text):
    """The told value with just this text."""
    check_text(text)
    value, last = value_from(text, 0, 0)
    if last < len(text):
        raise ParseError(last)
    return value
