"""Cores: heaps without some hooks, their beads, charges, letters and parts."""

from ringstairs.basics import check_between, is_between, is_long_row, is_pair, is_row
from ringstairs.errors import InvalidHeap, InvalidOperation, TooMany
from ringstairs.heap.heaps import check_heap, hook_at, is_heap, lengths_of

MAX_ORDER = 60
MAX_LETTERS = 30
MOST_LISTED = 20


def check_order(k):
    """Refuse what is no integer from 2 to 60."""
    check_between(k, 2, MAX_ORDER)


def beads_of(heap):
    """The list of the beads of the columns of a heap; all integers below these are beads, too, but the gaps."""
    return [height - column - 1 for column, height in enumerate(heap)]


def stays_core(k, heap):
    """Whether what surely is a heap is a core for k."""
    beads = {bead: True for bead in beads_of(heap)}
    return all([bead - k in beads or bead - k < -len(heap) for bead in beads])


def is_core(k, value):
    """Whether the value is a core for k."""
    check_order(k)
    return is_heap(value) and stays_core(k, value)


def check_core(k, core):
    """Refuse what is no core for what surely is a k."""
    if not is_heap(core) or not stays_core(k, core):
        raise InvalidHeap("no core")


def check_told(k, core):
    """Refuse what is no k with a core for it."""
    check_order(k)
    check_core(k, core)


def hook(heap, square):
    """The hook of a square of the heap."""
    check_heap(heap)
    if not is_pair(square) or not is_between(square[0], 0, len(heap) - 1):
        raise InvalidOperation("no square of this heap")
    if not is_between(square[1], 0, heap[square[0]] - 1):
        raise InvalidOperation("no square of this heap")
    return hook_at(heap, lengths_of(heap), square[0], square[1])


def charges(k, core):
    """The charges of the core, one for each rest."""
    check_told(k, core)
    beads = beads_of(core)
    sums = [0 for _ in range(k)]
    for bead in beads:
        if bead >= 0:
            sums[bead % k] += 1
    for hole in range(-len(core), 0):
        if hole not in beads:
            sums[hole % k] -= 1
    return tuple(sums)


def first_holes(k, told):
    """For each rest the least integer that is no bead of the core with these charges."""
    return [k * charge + rest for rest, charge in enumerate(told)]


def letters_between(k, holes):
    """The number of letters of the core for k with these least integers that are no beads."""
    heights = sorted(holes)
    return sum([(heights[late] - heights[early]) // k for late in range(k) for early in range(late)])


def core_of_charges(k, value):
    """The core that has the charges."""
    check_order(k)
    if not is_long_row(value, k) or sum(value) != 0:
        raise InvalidOperation("no charges")
    holes = first_holes(k, value)
    if letters_between(k, holes) > MAX_LETTERS:
        raise TooMany(MAX_LETTERS)
    beads = [bead for hole in holes for bead in range(hole - k, min(holes) - 1, -k)]
    heights = [bead + column + 1 for column, bead in enumerate(sorted(beads, reverse=True))]
    return tuple([height for height in heights if height > 0])


def parts_of(k, heap):
    """The tuple of the numbers of hooks below k in each column of what surely is a core."""
    lengths = lengths_of(heap)
    parts = []
    for column, height in enumerate(heap):
        parts.append(len([row for row in range(height) if hook_at(heap, lengths, column, row) < k]))
    return tuple(parts)


def letters_of(k, core):
    """The number of letters of the core."""
    check_told(k, core)
    return sum(parts_of(k, core))


def bounded_parts(k, core):
    """The parts of the core."""
    check_told(k, core)
    return parts_of(k, core)


def are_parts(k, value):
    """Whether the value is a tuple of integers from 1 to k - 1 that do not ascend."""
    if not isinstance(value, tuple) or not is_row(value, len(value), 1, k - 1):
        return False
    return all([value[at] >= value[at + 1] for at in range(len(value) - 1)])


def core_with(k, parts):
    """The core with these parts, column by column from the last one on.

    Below the squares with hooks below k stand those that see too many columns.
    """
    heap = ()
    for part in reversed(parts):
        lengths = lengths_of(heap)
        below = len([length for length in lengths if length + part >= k])
        heap = (below + part,) + heap
    return heap


def core_of_parts(k, value):
    """The core that has the parts."""
    check_order(k)
    if not are_parts(k, value):
        raise InvalidOperation("no parts")
    if sum(value) > MAX_LETTERS:
        raise TooMany(MAX_LETTERS)
    return core_with(k, value)


def rows_with_sum(most, total):
    """The list of the tuples of integers from 1 to most with this sum that do not ascend."""
    # The open rows, each with what is still to be told.
    left = [((), total)]
    done = []
    while left:
        row, rest = left.pop()
        if rest == 0:
            done.append(row)
        else:
            top = min(rest, row[-1] if row else most)
            left.extend([(row + (part,), rest - part) for part in range(1, top + 1)])
    return done


def cores_with_letters(k, letters):
    """The ascending list of all cores for k with so many letters."""
    return sorted([core_with(k, parts) for parts in rows_with_sum(k - 1, letters)])


def cores(k, letters):
    """The ascending tuple of all cores for k with so many letters."""
    check_order(k)
    check_between(letters, 0, MOST_LISTED)
    return tuple(cores_with_letters(k, letters))
