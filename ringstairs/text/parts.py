"""What single pieces of texts tell, and how they are written."""

from ringstairs.basics import DIGITS

FIGURES = "0123456789"


def is_figure(sign):
    """Whether a text of at most one character is a decimal digit."""
    return sign != "" and sign in FIGURES


def parts_of(text):
    """The list of the pairs (index, piece) of the longest parts of a text without blanks."""
    parts = []
    at = 0
    for piece in text.split(" "):
        if piece != "":
            parts.append((at, piece))
        at += len(piece) + 1
    return parts


def integer_told(piece):
    """The integer of at most sixty digits that a piece tells, None if it tells none."""
    figures = piece[1:] if piece.startswith("-") else piece
    if not 1 <= len(figures) <= DIGITS or not all([is_figure(sign) for sign in figures]):
        return None
    if figures[0] == "0" and piece != "0":
        return None
    return int(piece)


def pair_told(piece):
    """The pair of integers that a piece tells with a comma between them, None if it tells none."""
    told = [integer_told(part) for part in piece.split(",")]
    if len(told) != 2 or told[0] is None or told[1] is None:
        return None
    return (told[0], told[1])


def chips_told(piece):
    """The pair of a place and its number of chips that a piece of a deal tells, None if it tells none."""
    parts = piece.split(":")
    if len(parts) != 2:
        return None
    place = pair_told(parts[0])
    number = integer_told(parts[1])
    if place is None or number is None:
        return None
    return (place, number)


def pair_text(pair):
    """The piece of a ring, or of a place."""
    return f"{pair[0]},{pair[1]}"


def chain_text(chain):
    """The text of what surely is a chain."""
    return " ".join([pair_text(ring) for ring in chain])


def deal_pieces(deal):
    """The list of the pieces of what surely is a deal, ascending."""
    return [f"{pair_text(place)}:{deal[place]}" for place in sorted(deal)]
