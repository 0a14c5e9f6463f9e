"""The log of a shelf: a text that tells all that was done with it."""

from ringstairs.errors import (
    InvalidChain, InvalidDeal, InvalidOperation, ParseError, Refused, TooMany,
)
from ringstairs.house.shelf import Shelf
from ringstairs.text.parts import chain_text, chips_told, deal_pieces, integer_told, pair_text, pair_told


def edit_text(edit):
    """The pieces of an edit as a text."""
    word, target = edit[:2]
    if word == "put":
        return " ".join([word, target] + deal_pieces(edit[2]))
    if word == "ring":
        return f"{word} {target} {pair_text(edit[2])}"
    return f"{word} {target}"


def first_line(shelf):
    """The line that tells the first edition of a shelf."""
    deals = shelf.deals_at(1)
    rows = [" ".join(["/", name] + deal_pieces(deals[name])) for name in deals]
    return " ".join(["shelf", chain_text(shelf.chain_at(1))] + rows)


def call_line(call):
    """The line that tells a call of a history."""
    if call[0] == "edit":
        return "edit " + " / ".join([edit_text(edit) for edit in call[1]])
    return " ".join([str(piece) for piece in ("pin",) + call[1]])


def log_text(shelf):
    """The log of a shelf."""
    if not isinstance(shelf, Shelf):
        raise InvalidOperation("no shelf")
    lines = [first_line(shelf)] + [call_line(call) for call in shelf.history]
    return "".join([line + "\n" for line in lines])


def groups_in(pieces):
    """The list of the lists of pieces between strokes."""
    groups = [[]]
    for piece in pieces:
        if piece == "/":
            groups.append([])
        else:
            groups[-1].append(piece)
    return groups


def deal_told(pieces):
    """The deal that pieces tell, None if one of them is wrong."""
    told = [chips_told(piece) for piece in pieces]
    if any([row is None for row in told]):
        return None
    return {place: number for place, number in told}


def edit_told(group):
    """What may be the edit that the pieces of a group tell, None if it surely is none."""
    if len(group) < 2:
        return None
    word, target = group[:2]
    if word == "put":
        return (word, target, deal_told(group[2:]))
    if word == "drop":
        return (word, target) if len(group) == 2 else None
    if word == "ring":
        return (word, integer_told(target), pair_told(group[2])) if len(group) == 3 else None
    return (word, integer_told(target)) if len(group) == 2 else None


def question_told(pieces):
    """What may be the question that pieces tell, None if it surely is none."""
    if len(pieces) != 3:
        return None
    word, first, second = pieces
    if word == "alike":
        return (word, first, second)
    if word == "rich":
        return (word, first, integer_told(second))
    return (word, integer_told(first), integer_told(second))


def call_told(line):
    """What may be the call that a line tells, None if it surely is none."""
    pieces = line.split(" ")
    if pieces[0] == "edit":
        return ("edit", tuple([edit_told(group) for group in groups_in(pieces[1:])]))
    return ("pin", question_told(pieces[1:])) if pieces[0] == "pin" else None


def do_call(shelf, call):
    """Do a call that was told: an error if it is none, or is not done."""
    if call is None:
        raise InvalidOperation("no call")
    if call[0] == "edit":
        shelf.edit(call[1])
    else:
        shelf.pin(call[1])


def is_done(shelf, line):
    """Do the call that a line of a log tells, and tell whether the line is right."""
    call = call_told(line)
    try:
        do_call(shelf, call)
    except (InvalidOperation, Refused, TooMany):
        return False
    return call_line(call) == line


def begun(line):
    """The shelf that the first line of a log tells, None if it is wrong."""
    groups = groups_in(line.split(" "))
    if groups[0][:1] != ["shelf"] or any([len(group) == 0 for group in groups]):
        return None
    deals = {group[0]: deal_told(group[1:]) for group in groups[1:]}
    try:
        shelf = Shelf(tuple([pair_told(piece) for piece in groups[0][1:]]), deals)
    except (InvalidChain, InvalidDeal):
        return None
    return shelf if first_line(shelf) == line else None


def read_log(text):
    """The pair of the shelf that a log tells, and of how many characters its whole lines have."""
    if not isinstance(text, str):
        raise ParseError(None)
    lines = text.split("\n")[:-1]
    shelf = begun(lines[0]) if lines else None
    if shelf is None:
        raise ParseError(0)
    for index in range(1, len(lines)):
        if not is_done(shelf, lines[index]):
            raise ParseError(index)
    return (shelf, sum([len(line) + 1 for line in lines]))
