"""Round maps: maps of the integers, one to one, that are told by one round of values."""

from math import lcm

from ringstairs.basics import check_between, check_digits, check_integer, is_integer
from ringstairs.errors import InvalidMap, InvalidNumber

MAX_ROUND = 60


def is_round(value):
    """Whether the value is the values of a round map."""
    if not isinstance(value, tuple) or not 1 <= len(value) <= MAX_ROUND:
        return False
    if not all([is_integer(number) for number in value]):
        return False
    many = len(value)
    return sorted([number % many for number in value]) == list(range(many))


class Round:
    """A round map."""

    def __init__(self, values):
        if not is_round(values):
            raise InvalidMap("no values of a round map")
        self._values = values
        self._falls = None

    @property
    def told_values(self):
        """The values at 0 to one less than the round."""
        return self._values

    @property
    def shift(self):
        """By how much the values are greater than their places, on the average."""
        return shift_in(self._values)

    @property
    def falls(self):
        """How many pairs fall whose earlier place is in one round."""
        if self._falls is None:
            self._falls = falls_in(self._values)
        return self._falls

    def counted(self, a, b):
        """How many places of at most a have a value of at least -b."""
        check_integer(a)
        check_integer(b)
        return counted_in(self._values, a, b)

    def second(self, a, b):
        """The second step of the counts: 1 if the value at a is -b, 0 otherwise."""
        check_integer(a)
        check_integer(b)
        return 1 if value_in(self._values, a) == -b else 0

    def __call__(self, i):
        check_integer(i)
        return value_in(self._values, i)

    def __len__(self):
        return len(self._values)

    def __str__(self):
        return f"round of {len(self._values)}, shift {shift_in(self._values)}, {falls_in(self._values)} falls"

    def __eq__(self, other):
        return isinstance(other, Round) and are_equal(self._values, other._values)

    def __mul__(self, other):
        if not isinstance(other, Round):
            return NotImplemented
        if len(self) != len(other):
            raise InvalidMap("maps of unlike rounds")
        return told_round([value_in(self._values, value) for value in other._values])

    def __invert__(self):
        return told_round(values_back(self._values))


def value_in(values, i):
    """The value at i of the round map with these values."""
    rest = i % len(values)
    return values[rest] + i - rest


def shift_in(values):
    """The shift of the round map with these values."""
    many = len(values)
    return (sum(values) - sum(range(many))) // many


def falls_in(values):
    """How many pairs fall in the round map with these values.

    Of two rests as many pairs fall as whole rounds lie between their values,
    and one more if the earlier one has the greater value.
    """
    many = len(values)
    return sum([abs((values[late] - values[early]) // many) for late in range(many) for early in range(late)])


def counted_in(values, a, b):
    """How many places of at most a have a value of at least -b."""
    many = len(values)
    rounds = [(a - rest) // many + (b + value) // many + 1 for rest, value in enumerate(values)]
    return sum([max(0, often) for often in rounds])


def values_back(values):
    """The list of the values of the map back."""
    many = len(values)
    spots = {value % many: (spot, value) for spot, value in enumerate(values)}
    return [spots[rest][0] + rest - spots[rest][1] for rest in range(many)]


def are_equal(values, others):
    """Whether the round maps with these values are equal, also for unlike rounds."""
    places = range(lcm(len(values), len(others)))
    return all([value_in(values, i) == value_in(others, i) for i in places])


def told_round(values):
    """The round map with these values, as it can be returned."""
    check_digits(values)
    return Round(tuple(values))


def check_map(p):
    """Refuse what is no round map."""
    if not isinstance(p, Round):
        raise InvalidMap("no round map")


def plain_shift(m, t):
    """The map that takes i to i + t."""
    check_between(m, 1, MAX_ROUND)
    check_integer(t)
    return told_round([i + t for i in range(m)])


def exchanged(values, c):
    """The list of the values behind an exchange of those at c and c + 1, in each round."""
    many = len(values)
    behind = (c + 1) % many
    # Behind the last place stands the first one of the next round.
    lift = c + 1 - behind
    more = list(values)
    more[c] = values[behind] + lift
    more[behind] = values[c] - lift
    return more


def letter(m, c):
    """The map that exchanges i and i + 1 for all i that are c modulo m."""
    check_between(m, 2, MAX_ROUND)
    check_between(c, 0, m - 1)
    return told_round(exchanged(list(range(m)), c))


def widened(p, m):
    """The same map, of the round m."""
    check_map(p)
    check_between(m, 1, MAX_ROUND)
    if m % len(p) != 0:
        raise InvalidNumber(m)
    return told_round([value_in(p.told_values, i) for i in range(m)])
