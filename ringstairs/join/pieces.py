"""Pieces with two doors, their tables, and what is joined of them."""

from math import gcd

from ringstairs.basics import (
    DIGITS, check_between, check_digits, check_integer, is_long_row, is_row,
)
from ringstairs.errors import InvalidDeal, InvalidOperation, InvalidWeb, Refused, TooMany
from ringstairs.link.chains import check_chain
from ringstairs.link.classes import check_places
from ringstairs.rich.cuts import class_choices, class_costs, class_cuts, least_sum, sum_of_cuts
from ringstairs.webs.fire import MOST_PLACES, MOST_TIES, is_web, rings_of
from ringstairs.webs.nets import net_of, reduced_chips, richness_up_to, scaled_moves

MOST_PIECE_PLACES = 6
MOST_PIECE_TIES = 9
MOST_PIECES = 6
MOST_ENDS = 400
MOST_DEALT = 5
MOST_JOINED_ENDS = 50


class Piece:
    """A web with a left door, a right door, and a deal."""

    def __init__(self, web, left, right, deal):
        if not is_web(web) or web[0] > MOST_PIECE_PLACES or len(web[1]) > MOST_PIECE_TIES:
            raise InvalidWeb("no web of a piece")
        check_between(left, 0, web[0] - 1)
        check_between(right, 0, web[0] - 1)
        if not is_row(deal, web[0], -MOST_DEALT, MOST_DEALT):
            raise InvalidDeal("no deal of a piece")
        self._web = web
        self._left = left
        self._right = right
        self._deal = deal
        self._period = period_of(net_of(web), left, right)
        # Answers that take a search are kept; they change nothing that can be asked for.
        self._told = {}
        self._kept = {}
        self._odd = []

    @property
    def web(self):
        """The web of the piece."""
        return self._web

    @property
    def left(self):
        """The left door of the piece."""
        return self._left

    @property
    def right(self):
        """The right door of the piece."""
        return self._right

    @property
    def deal(self):
        """The deal on the piece."""
        return self._deal

    @property
    def period(self):
        """The least number of chips that are alike at both doors."""
        return self._period

    def table_at(self, a, b):
        """The number h(a, b)."""
        check_between(a, -MOST_ENDS, MOST_ENDS)
        check_between(b, -MOST_ENDS, MOST_ENDS)
        return self.entry(a, b)

    def step_at(self, a, b):
        """The second step at a and b."""
        check_between(a, -MOST_ENDS, MOST_ENDS)
        check_between(b, -MOST_ENDS, MOST_ENDS)
        return self.step(a, b)

    def entry(self, a, b):
        """The number h(a, b) for all integers."""
        chips = sum(self._deal) + a + b
        rings = rings_of(self._web)
        if chips < 0:
            return 0
        if chips > 2 * rings - 2:
            return chips + 1 - rings
        key = (a % self._period, chips)
        if key not in self._told:
            self._told[key] = self.richness(key[0], a + b - key[0]) + 1
        return self._told[key]

    def step(self, a, b):
        """The second step for all integers."""
        return self.entry(a, b) - self.entry(a - 1, b) - self.entry(a, b - 1) + self.entry(a - 1, b - 1)

    def richness(self, a, b):
        """The richness with a chips more at the left door and b chips more at the right door."""
        net = net_of(self._web)
        chips = list(self._deal)
        chips[self._left] += a
        chips[self._right] += b
        many = sum(chips)
        more = 0
        if many >= rings_of(self._web):
            # What is left of the canonical deal has fewer chips, and tells the same.
            more = many + 1 - rings_of(self._web)
            chips = [row[0] - 2 - spot for row, spot in zip(net, chips)]
        return richness_up_to(net, reduced_chips(net, 0, chips), sum(chips), self._kept) + more

    def first_odd(self):
        """A pair with the second step -1, None if there is none."""
        if not self._odd:
            self._odd.append(search_odd(self))
        return self._odd[0]

    def __eq__(self, other):
        return (
            isinstance(other, Piece) and self._web == other._web and self._deal == other._deal
            and self._left == other._left and self._right == other._right
        )

    def __str__(self):
        return f"piece of {self._web[0]} places and {len(self._web[1])} ties, {sum(self._deal)} chips"


def period_of(net, left, right):
    """The least number, at least 1, of chips at one place that are alike to as many at another one."""
    chips = [0 for _ in net]
    chips[left] += 1
    chips[right] -= 1
    scale, moves = scaled_moves(net, right, chips)
    common = scale
    for many in moves:
        common = gcd(common, many)
    return scale // common


def check_piece(piece):
    """Refuse what is no piece."""
    if not isinstance(piece, Piece):
        raise InvalidOperation("no piece")


def check_pieces(pieces):
    """Refuse what is no tuple of one to six pieces."""
    if not isinstance(pieces, tuple) or not 1 <= len(pieces) <= MOST_PIECES:
        raise InvalidOperation("no pieces")
    for piece in pieces:
        check_piece(piece)


def ends_of(piece, a):
    """The list of the integers b at which the second step at a and b can be other than 0."""
    chips = sum(piece.deal) + a
    return list(range(-chips, 2 * rings_of(piece.web) - chips + 1))


def search_odd(piece):
    """A pair with the second step -1, None if there is none."""
    for a in range(piece.period):
        for b in ends_of(piece, a):
            if piece.step(a, b) == -1:
                return (a, b)
    return None


def is_orderly(piece):
    """Whether no second step of the piece is -1."""
    check_piece(piece)
    return piece.first_odd() is None


def odd_place(piece):
    """Any pair with the second step -1, None if the piece is orderly."""
    check_piece(piece)
    return piece.first_odd()


def is_odd_place(piece, value):
    """Whether the value is a pair of integers from -400 to 400 with the second step -1."""
    check_piece(piece)
    return is_row(value, 2, -MOST_ENDS, MOST_ENDS) and piece.step(value[0], value[1]) == -1


def piece_value(piece, index):
    """The value of the map of an orderly piece at an index."""
    check_piece(piece)
    check_integer(index)
    if piece.first_odd() is not None:
        raise Refused(("odd",))
    rest = index % piece.period
    ends = [b for b in ends_of(piece, rest) if piece.step(rest, b) == 1]
    told = index - rest - ends[0]
    check_digits([told])
    return told


def places_in_joined(pieces):
    """For each piece the list of the numbers that its places have in the joined web."""
    rows = []
    many = 0
    for index, piece in enumerate(pieces):
        row = []
        for place in range(piece.web[0]):
            if index > 0 and place == piece.left:
                row.append(rows[index - 1][pieces[index - 1].right])
            else:
                row.append(many)
                many += 1
        rows.append(row)
    return rows


def joined_web(pieces):
    """The web, the doors and the deal of the joined web."""
    check_pieces(pieces)
    rows = places_in_joined(pieces)
    size = sum([piece.web[0] for piece in pieces]) - len(pieces) + 1
    if size > MOST_PLACES:
        raise TooMany(MOST_PLACES)
    ties = []
    deal = [0 for _ in range(size)]
    for piece, row in zip(pieces, rows):
        ties.extend([(min(row[low], row[high]), max(row[low], row[high])) for low, high in piece.web[1]])
        for place, many in enumerate(piece.deal):
            deal[row[place]] += many
    if len(ties) > MOST_TIES:
        raise TooMany(MOST_TIES)
    return ((size, tuple(sorted(ties))), rows[0][pieces[0].left], rows[-1][pieces[-1].right], tuple(deal))


def check_joined(pieces, a, b):
    """Refuse what is not pieces with numbers of chips at both ends."""
    check_pieces(pieces)
    check_between(a, -MOST_JOINED_ENDS, MOST_JOINED_ENDS)
    check_between(b, -MOST_JOINED_ENDS, MOST_JOINED_ENDS)


def piece_costs(pieces):
    """The function that tells what the pieces cost."""
    return lambda index, a, b: pieces[index].entry(a, b)


def piece_cuts(pieces, a, b):
    """The pair of the least sum and of cuts that have it.

    There are least ones for which the chips at the left of each joint are from
    -1 to twice the rings of all pieces.
    """
    rings = sum([rings_of(piece.web) for piece in pieces])
    choices = []
    ahead = a
    for piece in pieces[:-1]:
        ahead += sum(piece.deal)
        choices.append([chips - ahead for chips in range(-1, 2 * rings + 1)])
    return least_sum(piece_costs(pieces), a, b, choices)


def joined_table(pieces, a, b):
    """The number h(a, b) of the joined web."""
    check_joined(pieces, a, b)
    return piece_cuts(pieces, a, b)[0]


def cuts(pieces, a, b):
    """Any cuts whose sum is the number h(a, b) of the joined web."""
    check_joined(pieces, a, b)
    return piece_cuts(pieces, a, b)[1]


def is_cuts(pieces, a, b, value):
    """Whether the value is cuts whose sum is the number h(a, b) of the joined web."""
    check_joined(pieces, a, b)
    if not is_row(value, len(pieces) - 1, -MOST_ENDS, MOST_ENDS):
        return False
    return sum_of_cuts(piece_costs(pieces), a, b, value) == piece_cuts(pieces, a, b)[0]


def check_class_ends(chain, degree, places, a, b):
    """Refuse what is no class of a chain with numbers of chips at both ends."""
    check_chain(chain)
    check_integer(degree)
    check_places(chain, places)
    check_integer(a)
    check_integer(b)


def chain_table(chain, degree, places, a, b):
    """The number h(a, b) of the class, from its rings alone."""
    check_class_ends(chain, degree, places, a, b)
    return class_cuts(chain, degree, places, a, b)[0]


def chain_cuts(chain, degree, places, a, b):
    """Any cuts of the class whose sum is the number h(a, b)."""
    check_class_ends(chain, degree, places, a, b)
    least, found = class_cuts(chain, degree, places, a, b)
    if is_long_row(found, len(chain) - 1):
        return found
    # Near sixty digits at the left end others of the least ones may still be short enough.
    short = [[at for at in row if is_long_row((at,), 1)] for row in class_choices(chain, a)]
    told = least_sum(class_costs(chain, degree, places), a, b, short)
    if told is None or told[0] > least:
        raise TooMany(DIGITS)
    return told[1]


def is_chain_cuts(chain, degree, places, a, b, value):
    """Whether the value is cuts of the class whose sum is the number h(a, b)."""
    check_class_ends(chain, degree, places, a, b)
    if not is_long_row(value, len(chain) - 1):
        return False
    costs = class_costs(chain, degree, places)
    return sum_of_cuts(costs, a, b, value) == class_cuts(chain, degree, places, a, b)[0]
