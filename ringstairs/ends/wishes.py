"""Wishes for the richness with chips at both ends, and gaps, the wishes that fillings of one shape meet."""

from ringstairs.basics import check_integer, is_between, is_row
from ringstairs.errors import InvalidOperation, TooMany
from ringstairs.fill.counts import tuples_of
from ringstairs.link.chains import check_chain, check_deal, lets, order_of
from ringstairs.link.classes import class_at
from ringstairs.rich.richness import is_risen
from ringstairs.turns.ends import table_entry

MAX_WISHES = 60
MAX_TRIED = 10000
MOST_AT_END = 100
MOST_WISHED = 40
MOST_GAPS = 8
MOST_GAP = 30
MOST_SHAPED = 400


def is_wish(value):
    """Whether the value is a wish."""
    if not is_row(value, 3, -MOST_AT_END, MOST_AT_END):
        return False
    return is_between(value[2], 0, MOST_WISHED)


def is_wishes(value):
    """Whether the value is wishes."""
    if not isinstance(value, tuple) or len(value) > MAX_WISHES:
        return False
    return all([is_wish(wish) for wish in value])


def check_wishes(wishes):
    """Refuse what is no wishes."""
    if not is_wishes(wishes):
        raise InvalidOperation("no wishes")


def meets(chain, deal, wishes):
    """Whether the class of the deal meets the wishes."""
    check_chain(chain)
    check_deal(chain, deal)
    check_wishes(wishes)
    degree, places = class_at(chain, deal)
    return all([table_entry(chain, degree, places, a, b) >= t for a, b, t in wishes])


def open_wishes(rings, degree, wishes):
    """The list of the wishes that some classes can meet and others not, None if a wish is met by none.

    It has triples (a, chips, t) with the number of all chips behind those at the ends.
    """
    left = []
    for a, b, t in wishes:
        chips = degree + a + b
        if 0 <= chips <= 2 * rings - 2:
            left.append((a, chips, t))
        elif max(0, chips + 1 - rings) < t:
            return None
    return left


def ring_choices(ring):
    """The list of what a ring can do: triples (first place, how many such places, its letter or None)."""
    order = order_of(ring)
    choices = [(-c * ring[1] % ring[0], 1, c) for c in range(order)]
    mute = ring[0] - order
    if mute > 0:
        # The place 1 is mute where there are mute places: it is no multiple of what they have in common.
        choices.append((1, mute, None))
    return choices


def values_behind(values, first, order, c):
    """The values of a map from the first place on, behind the exchanges of a ring."""
    if c is None:
        return values
    more = list(values)
    for at in range((c - first) % order, len(more) - 1, order):
        if more[at] < more[at + 1]:
            more[at], more[at + 1] = more[at + 1], more[at]
    return tuple(more)


def maps_from(chain, first, last):
    """For the values from first to last of the maps of the degree 0 how many tuples have them, and one of these.

    What a ring does wrong at the edges comes one place nearer with each ring.
    """
    rings = len(chain)
    found = {tuple(range(first - rings, last - rings + 1)): (1, ())}
    for ring in reversed(chain):
        more = {}
        for values in found:
            many, places = found[values]
            for place, times, c in ring_choices(ring):
                behind = values_behind(values, first, order_of(ring), c)
                known, kept = more.get(behind, (0, (place,) + places))
                more[behind] = (known + many * times, kept)
        found = more
    return found


def is_met(values, first, wish):
    """Whether a map of the degree 0 with these values from the first place on meets an open wish."""
    a, chips, t = wish
    counted = [value for value in values[a - chips - first:a + 1 - first] if value >= a - chips]
    return len(counted) >= t


def meeting_maps(chain, degree, wishes):
    """The list of the pairs (how many tuples, one of them) of the maps that meet the wishes."""
    rings = len(chain)
    asked = open_wishes(rings, degree, wishes)
    if asked is None:
        return []
    if not asked:
        return [(tuples_of(chain), (0,) * rings)]
    first = min([a - chips for a, chips, _ in asked]) - rings
    last = max([a for a, _, _ in asked]) + rings
    found = maps_from(chain, first, last)
    return [found[values] for values in found if all([is_met(values, first, wish) for wish in asked])]


def check_tried(chain, degree, wishes):
    """Refuse what is no chain, degree or wishes, or has too many maps to try."""
    check_chain(chain)
    check_integer(degree)
    check_wishes(wishes)
    tried = 1
    for ring in chain:
        tried = tried * len(ring_choices(ring))
    if tried > MAX_TRIED:
        raise TooMany(MAX_TRIED)


def some_class(chain, degree, wishes):
    """Any tuple of a class of the degree that meets the wishes, None if there is none."""
    check_tried(chain, degree, wishes)
    for _, places in meeting_maps(chain, degree, wishes):
        return places
    return None


def classes_meeting(chain, degree, wishes):
    """How many tuples have a class of the degree that meets the wishes."""
    check_tried(chain, degree, wishes)
    return sum([many for many, _ in meeting_maps(chain, degree, wishes)])


def is_gap_row(value, many):
    """Whether the value is a rising tuple of so many integers from 0 to 30."""
    return is_row(value, many, 0, MOST_GAP) and all([value[at] < value[at + 1] for at in range(many - 1)])


def check_gaps(left, right):
    """Refuse what is no gaps."""
    if not isinstance(left, tuple) or not 1 <= len(left) <= MOST_GAPS or not is_gap_row(left, len(left)):
        raise InvalidOperation("no gaps at the left")
    if not is_gap_row(right, len(left)):
        raise InvalidOperation("no gaps at the right")


def gap_wishes(left, right):
    """The wishes that gaps stand for."""
    check_gaps(left, right)
    many = len(left)
    return tuple([(-left[i], -right[j], many - i - j) for i in range(many) for j in range(many - i)])


def shape_of(rings, degree, left, right):
    """The list of the pairs (first row, one behind the last row) of the columns of the skew shape."""
    k = len(left) - 1
    rows = []
    for i in range(k + 1):
        first = i - left[i]
        rows.append((first, max(first, rings - degree + i + right[k - i])))
    if sum([last - first for first, last in rows]) > MOST_SHAPED:
        raise TooMany(MOST_SHAPED)
    return rows


def gap_rows(chain, degree, left, right):
    """The pairs (first row, one behind the last row) of the columns of the skew shape of gaps."""
    check_chain(chain)
    check_integer(degree)
    check_gaps(left, right)
    return tuple(shape_of(len(chain), degree, left, right))


def columns_taken(ring, place, rows, tops):
    """The list of the columns of which a ring takes the next square, with the first rows that are not taken yet."""
    taken = []
    for column, (_, last) in enumerate(rows):
        row = tops[column]
        if row < last and (column == 0 or row < tops[column - 1]) and lets(ring, place, column - row):
            taken.append(column)
    return taken


def check_shaped(chain, deal, left, right):
    """Refuse what is no chain, no deal on it, or no gaps."""
    check_chain(chain)
    check_deal(chain, deal)
    check_gaps(left, right)


def gap_filling(chain, deal, left, right):
    """Any filling of the skew shape of gaps by the class of the deal, None if there is none."""
    check_shaped(chain, deal, left, right)
    degree, places = class_at(chain, deal)
    rows = shape_of(len(chain), degree, left, right)
    tops = [first for first, _ in rows]
    columns = [[] for _ in rows]
    for index, ring in enumerate(chain):
        for column in columns_taken(ring, places[index], rows, tops):
            tops[column] += 1
            columns[column].append(index)
    if tops != [last for _, last in rows]:
        return None
    return tuple([tuple(column) for column in columns])


def row_ahead(columns, rows, at):
    """What stands ahead of each square of a column in its row, -1 for nothing."""
    first, last = rows[at]
    if at == 0:
        return [-1 for _ in range(first, last)]
    start = rows[at - 1][0]
    return [columns[at - 1][row - start] if row >= start else -1 for row in range(first, last)]


def is_gap_filling(chain, deal, left, right, value):
    """Whether the value is a filling of the skew shape of gaps by the class of the deal."""
    check_shaped(chain, deal, left, right)
    degree, places = class_at(chain, deal)
    rows = shape_of(len(chain), degree, left, right)
    if not isinstance(value, tuple) or len(value) != len(rows):
        return False
    for at, (first, last) in enumerate(rows):
        if not is_row(value[at], last - first, 0, len(chain) - 1):
            return False
        if not is_risen(value[at], row_ahead(value, rows, at)):
            return False
        if not all([lets(chain[index], places[index], at - first - up) for up, index in enumerate(value[at])]):
            return False
    return True
