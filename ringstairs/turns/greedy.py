"""Greedy products of round maps, words of letters, and least factors."""

from ringstairs.basics import check_between, is_integer, is_long_row, is_pair, is_row
from ringstairs.errors import InvalidMap, InvalidNumber, InvalidWord, TooMany
from ringstairs.turns.rounds import MAX_ROUND, check_map, exchanged, falls_in, told_round, value_in

MAX_FALLS = 1000
MAX_WORD = 2000


def check_falls(p):
    """Refuse a map with too many falls."""
    if p.falls > MAX_FALLS:
        raise TooMany(MAX_FALLS)


def check_maps(p, q):
    """Refuse what is not two maps of one round with few falls enough."""
    check_map(p)
    check_map(q)
    if len(p) != len(q):
        raise InvalidMap("maps of unlike rounds")
    check_falls(p)
    check_falls(q)


def is_rising(values, c):
    """Whether the value at c is less than that at c + 1."""
    return values[c] < value_in(values, c + 1)


def moved(values, t):
    """The list of the values of the map behind the shift by t."""
    return [value_in(values, i + t) for i in range(len(values))]


def raised_by(values, letters):
    """The list of the values of the greedy product with letters on the right."""
    for c in letters:
        if is_rising(values, c):
            values = exchanged(values, c)
    return values


def first_fall(values):
    """The least c whose value is greater than that at c + 1, None for a shift."""
    for c in range(len(values)):
        if not is_rising(values, c):
            return c
    return None


def letters_in(values):
    """The list of the letters of a word of least length of the map with these values."""
    letters = []
    c = first_fall(values)
    while c is not None:
        letters.append(c)
        values = exchanged(values, c)
        c = first_fall(values)
    return letters[::-1]


def greedy_values(p, q):
    """The list of the values of the greedy product of two maps, with integers of any length."""
    return raised_by(moved(p.told_values, q.shift), letters_in(q.told_values))


def told_greedy(values):
    """The map with these values, as a greedy product can be returned."""
    product = told_round(values)
    check_falls(product)
    return product


def greedy(p, q):
    """The greedy product of p and q, q first."""
    check_maps(p, q)
    return told_greedy(greedy_values(p, q))


def reach_of(p):
    """The greatest distance between a value and the value of the shift of the map."""
    shift = p.shift
    return max([abs(value - i - shift) for i, value in enumerate(p.told_values)])


def top_values(p, a, reach):
    """The greatest values at places of at most a, descending, up to where all are as those of the shift."""
    values = [value_in(p.told_values, i) for i in range(a - 2 * reach, a + 1)]
    return sorted(values, reverse=True)[:reach + 1]


def more_spot(p, q):
    """A pair (a, b) that p counts more at than q, None if there is none.

    At a, p counts no more than q for all b exactly if none of its greatest
    values is above that of q that stands as far from the top.
    """
    reach = max(reach_of(p), reach_of(q))
    for a in range(len(p)):
        for one, other in zip(top_values(p, a, reach), top_values(q, a, reach)):
            if one > other:
                return (a, -one)
    return None


def is_below(p, q):
    """Whether p counts nowhere more than q."""
    check_maps(p, q)
    return more_spot(p, q) is None


def more_at(p, q):
    """Any pair (a, b) that p counts more at than q, None if p is below q."""
    check_maps(p, q)
    spot = more_spot(p, q)
    if spot is None:
        return None
    a, b = spot
    # Rounds that both have keep the counts: so neither integer need be long.
    rounds = (b - a) // (2 * len(p)) * len(p)
    return (a + rounds, b - rounds)


def is_more_at(p, q, value):
    """Whether the value is a pair (a, b) that p counts more at than q."""
    check_maps(p, q)
    return is_long_row(value, 2) and p.counted(value[0], value[1]) > q.counted(value[0], value[1])


def does_nothing(p, c):
    """Whether the letter changes nothing behind p."""
    check_map(p)
    if len(p) < 2:
        raise InvalidNumber(c)
    check_between(c, 0, len(p) - 1)
    check_falls(p)
    return not is_rising(p.told_values, c)


def is_split(p, q):
    """Whether the greedy product of p and q is their product."""
    check_maps(p, q)
    return falls_in(greedy_values(p, q)) == p.falls + q.falls


def is_word(m, value):
    """Whether the value is a word of the round m."""
    if not is_pair(value) or not is_integer(value[0]) or not isinstance(value[1], tuple):
        return False
    if m == 1:
        return len(value[1]) == 0
    return len(value[1]) <= MAX_WORD and is_row(value[1], len(value[1]), 0, m - 1)


def check_word(m, word):
    """Refuse what is no round, or no word of this round."""
    check_between(m, 1, MAX_ROUND)
    if not is_word(m, word):
        raise InvalidWord("no word of this round")


def plain_values(m, word):
    """The list of the values of the plain product of a word, with integers of any length."""
    values = [i + word[0] for i in range(m)]
    for c in word[1]:
        values = exchanged(values, c)
    return values


def made_of(m, word):
    """The plain product of a word."""
    check_word(m, word)
    return told_round(plain_values(m, word))


def greedily_made(m, word):
    """The greedy product of a word."""
    check_word(m, word)
    return told_greedy(raised_by([i + word[0] for i in range(m)], word[1]))


def word_of(p):
    """Any word of least length whose plain product is p."""
    check_map(p)
    check_falls(p)
    return (p.shift, tuple(letters_in(p.told_values)))


def is_word_of(p, value):
    """Whether the value is a word of least length whose plain product is p."""
    check_map(p)
    check_falls(p)
    if not is_word(len(p), value) or len(value[1]) != p.falls:
        return False
    return tuple(plain_values(len(p), value)) == p.told_values


def least_factor(whole, q):
    """The least map whose greedy product with q has the whole below it."""
    check_maps(whole, q)
    values = list(whole.told_values)
    for c in reversed(letters_in(q.told_values)):
        if not is_rising(values, c):
            values = exchanged(values, c)
    return told_round(moved(values, -q.shift))
