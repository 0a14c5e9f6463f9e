"""Words that grow cores, words within words, and the least cores of a box."""

from ringstairs.basics import check_between, is_row
from ringstairs.core.cores import (
    MAX_LETTERS, check_core, check_order, check_told, cores_with_letters, parts_of,
)
from ringstairs.errors import InvalidWord, TooMany
from ringstairs.heap.heaps import has_box, heaped, height_at, holds, lowered, open_columns, tips_of

MAX_CORE_WORD = 200
MAX_BOX = 16
MOST_COUNTED = 20


def is_core_word(k, value):
    """Whether the value is a core word for what surely is a k."""
    if not isinstance(value, tuple) or len(value) > MAX_CORE_WORD:
        return False
    return is_row(value, len(value), 0, k - 1)


def check_core_word(k, word):
    """Refuse what is no k with a core word for it."""
    check_order(k)
    if not is_core_word(k, word):
        raise InvalidWord("no core word")


def check_letters(k, core, most):
    """Refuse a core with more letters."""
    if sum(parts_of(k, core)) > most:
        raise TooMany(most)


def behind_letter(k, core, letter):
    """The core behind a letter, of any size."""
    columns = open_columns(core)
    return heaped(core, [column for column in columns if (column - height_at(core, column)) % k == letter])


def ahead_of_letter(k, core, letter):
    """The core of which the letter makes this one, this one itself if the letter makes it of no other one."""
    return lowered(core, [column for column, height in tips_of(core) if (column - height + 1) % k == letter])


def last_letters(k, core):
    """The ascending list of the letters that make the core of another one."""
    return sorted({(column - height + 1) % k: True for column, height in tips_of(core)})


def cores_along(k, word):
    """The list of the cores from the empty one on, behind each letter of a word."""
    row = [()]
    letters = 0
    for letter in word:
        more = behind_letter(k, row[-1], letter)
        if more != row[-1]:
            letters += 1
        if letters > MAX_LETTERS:
            raise TooMany(MAX_LETTERS)
        row.append(more)
    return row


def with_letter(k, core, letter):
    """The core behind a letter."""
    check_told(k, core)
    check_between(letter, 0, k - 1)
    more = behind_letter(k, core, letter)
    check_letters(k, more, MAX_LETTERS)
    return more


def made_by(k, word):
    """The core that the word makes."""
    check_core_word(k, word)
    return cores_along(k, word)[-1]


def idle_letters(k, word):
    """The ascending tuple of the indices of the letters that are idle on the way."""
    check_core_word(k, word)
    row = cores_along(k, word)
    return tuple([index for index in range(len(word)) if row[index] == row[index + 1]])


def growing_word(k, core):
    """Any word that grows the core."""
    check_told(k, core)
    check_letters(k, core, MAX_LETTERS)
    letters = []
    left = core
    while left != ():
        letters.append(last_letters(k, left)[0])
        left = ahead_of_letter(k, left, letters[-1])
    return tuple(letters[::-1])


def grows(k, letters, core):
    """Whether the letters grow the core, none of them idle."""
    left = ()
    for letter in letters:
        more = behind_letter(k, left, letter)
        if more == left:
            return False
        left = more
    return left == core


def is_growing_word(k, core, value):
    """Whether the value is a word that grows the core."""
    check_told(k, core)
    check_letters(k, core, MAX_LETTERS)
    return is_core_word(k, value) and grows(k, value, core)


def ways_back(k, ways):
    """For each core of which one letter makes one of a dict, the sum of the numbers of those that it makes."""
    more = {}
    for core in ways:
        for letter in last_letters(k, core):
            ahead = ahead_of_letter(k, core, letter)
            more[ahead] = more.get(ahead, 0) + ways[core]
    return more


def growing_words_count(k, core):
    """How many words grow the core."""
    check_told(k, core)
    check_letters(k, core, MOST_COUNTED)
    ways = {core: 1}
    for _ in range(sum(parts_of(k, core))):
        ways = ways_back(k, ways)
    return ways[()]


def check_in_word(k, word, core):
    """Refuse what is no k with a core word and a core, or a word that makes too many letters."""
    check_core_word(k, word)
    check_core(k, core)
    cores_along(k, word)


def core_subword(k, word, core):
    """Any ascending tuple of indices of the word whose letters grow the core, None if there is none.

    From the last letter on each one is taken that can be the last one of what
    is left: if the word makes a core that holds the core, so it does without it.
    """
    check_in_word(k, word, core)
    spots = []
    left = core
    for index in reversed(range(len(word))):
        ahead = ahead_of_letter(k, left, word[index])
        if ahead != left:
            spots.append(index)
            left = ahead
    return tuple(spots[::-1]) if left == () else None


def is_core_subword(k, word, core, value):
    """Whether the value is an ascending tuple of indices of the word whose letters grow the core."""
    check_in_word(k, word, core)
    if not isinstance(value, tuple) or not is_row(value, len(value), 0, len(word) - 1):
        return False
    if any([value[at] >= value[at + 1] for at in range(len(value) - 1)]):
        return False
    return grows(k, [word[index] for index in value], core)


def check_boxed(k, columns, rows):
    """Refuse what is no k with the sides of a box of few squares enough."""
    check_order(k)
    check_between(columns, 1, MAX_BOX)
    check_between(rows, 1, MAX_BOX)
    if columns * rows > MAX_BOX:
        raise TooMany(MAX_BOX)


def letters_for(k, columns, rows):
    """The number of letters of the least core with fewest letters that holds a box."""
    return min([(columns - inner) * (rows - inner) + inner * k for inner in range(min(columns, rows))])


def least_cores(k, columns, rows):
    """The ascending tuple of the least cores of a box."""
    check_boxed(k, columns, rows)
    least = []
    # A core that holds another one has more letters: so the least ones come first.
    for letters in range(letters_for(k, columns, rows), columns * rows + 1):
        for core in cores_with_letters(k, letters):
            if has_box(core, columns, rows) and not any([holds(core, other) for other in least]):
                least.append(core)
    return tuple(sorted(least))


def least_letters(k, columns, rows):
    """How many letters the least one of the least cores of a box has."""
    check_boxed(k, columns, rows)
    return letters_for(k, columns, rows)
