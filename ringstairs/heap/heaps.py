"""Heaps of squares, and how they grow along a chain."""

from ringstairs.basics import check_between, check_up_to, is_between
from ringstairs.errors import InvalidHeap, InvalidNumber, TooMany
from ringstairs.link.chains import check_chain, check_ring, lets
from ringstairs.link.classes import check_places

MOST_SIDE = 60


def is_heap(value):
    """Whether the value is a heap of at most 60 columns with heights of at most 60."""
    if not isinstance(value, tuple) or len(value) > MOST_SIDE:
        return False
    ahead = MOST_SIDE
    for height in value:
        if not is_between(height, 1, ahead):
            return False
        ahead = height
    return True


def check_heap(heap):
    """Refuse what is no heap, or too long a one."""
    if not is_heap(heap):
        raise InvalidHeap("no heap")


def check_heaps(one, other):
    """Refuse what is not two heaps."""
    check_heap(one)
    check_heap(other)


def check_side(heap):
    """Refuse to return a heap with too long a side."""
    if not is_heap(heap):
        raise TooMany(MOST_SIDE)


def height_at(heap, column):
    """The height of a column, 0 behind the last one."""
    return heap[column] if column < len(heap) else 0


def has_box(heap, columns, rows):
    """Whether the heap holds the box of so many columns and rows."""
    return columns < 1 or rows < 1 or height_at(heap, columns - 1) >= rows


def holds(heap, other):
    """Whether what surely is a heap has all squares of the other one."""
    return all([height_at(heap, column) >= height for column, height in enumerate(other)])


def box(columns, rows):
    """The box of so many columns and rows."""
    check_up_to(columns, MOST_SIDE)
    check_up_to(rows, MOST_SIDE)
    if columns < 1 or rows < 1:
        return ()
    return (rows,) * columns


def squares(heap):
    """The ascending tuple of the squares."""
    check_heap(heap)
    return tuple([(column, row) for column, height in enumerate(heap) for row in range(height)])


def is_held(heap, other):
    """Whether the heap holds the other one."""
    check_heaps(heap, other)
    return holds(heap, other)


def lengths_of(heap):
    """The tuple of the lengths of the rows of what surely is a heap."""
    return tuple([len([height for height in heap if height > row]) for row in range(height_at(heap, 0))])


def hook_at(heap, lengths, column, row):
    """The hook of a square of a heap whose rows have these lengths."""
    return heap[column] - row + lengths[row] - column - 1


def turned_over(heap):
    """The heap with columns for rows."""
    check_heap(heap)
    return lengths_of(heap)


def union_of(one, other):
    """The heap with the squares of one of both."""
    check_heaps(one, other)
    columns = range(max(len(one), len(other)))
    return tuple([max(height_at(one, column), height_at(other, column)) for column in columns])


def common_of(one, other):
    """The heap with the squares that both have."""
    check_heaps(one, other)
    return tuple([min(low, high) for low, high in zip(one, other)])


def open_columns(heap):
    """The list of the columns on top of which a square can be added."""
    columns = range(len(heap) + 1)
    return [column for column in columns if column == 0 or heap[column - 1] > height_at(heap, column)]


def tips_of(heap):
    """The list of the columns whose highest square can be taken away, each with its height."""
    return [(column, height) for column, height in enumerate(heap) if height > height_at(heap, column + 1)]


def heaped(heap, columns):
    """The heap with a square more on each of these columns, of any size."""
    heights = list(heap) + [0]
    for column in columns:
        heights[column] += 1
    return tuple([height for height in heights if height > 0])


def lowered(heap, columns):
    """The heap with a square less on each of these columns."""
    heights = [height - 1 if column in columns else height for column, height in enumerate(heap)]
    return tuple([height for height in heights if height > 0])


def addable(heap):
    """The ascending tuple of the diagonals on which a square can be added."""
    check_heap(heap)
    return tuple([column - height_at(heap, column) for column in open_columns(heap)])


def removable(heap):
    """The ascending tuple of the diagonals on which a square can be taken away."""
    check_heap(heap)
    return tuple([column - height + 1 for column, height in tips_of(heap)])


def with_square(heap, diagonal):
    """The heap with a square more on the diagonal."""
    check_heap(heap)
    columns = open_columns(heap)
    diagonals = [column - height_at(heap, column) for column in columns]
    if not is_between(diagonal, -MOST_SIDE, MOST_SIDE) or diagonal not in diagonals:
        raise InvalidNumber(diagonal)
    more = heaped(heap, [columns[diagonals.index(diagonal)]])
    check_side(more)
    return more


def grown_by(heap, ring, place):
    """The heap with all squares that can be added and that the ring lets, of any size."""
    columns = open_columns(heap)
    return heaped(heap, [column for column in columns if lets(ring, place, column - height_at(heap, column))])


def grown(heap, ring, place):
    """The heap with all squares, added at once, that can be added and that the ring lets."""
    check_heap(heap)
    check_ring(ring)
    check_between(place, 0, ring[0] - 1)
    more = grown_by(heap, ring, place)
    check_side(more)
    return more


def heaps_of(chain, places):
    """The list of the heaps behind each ring of what surely is a chain with its places."""
    heaps = [()]
    for index, ring in enumerate(chain):
        heaps.append(grown_by(heaps[index], ring, places[index]))
    return heaps


def labels_along(heaps):
    """The columns of the last one of growing heaps, with the index of the step that added each square."""
    columns = [[] for _ in heaps[-1]]
    for index in range(len(heaps) - 1):
        for column, height in enumerate(heaps[index + 1]):
            if height > height_at(heaps[index], column):
                columns[column].append(index)
    return columns


def heap_of(chain, places):
    """The heap of the classes with this tuple."""
    check_chain(chain)
    check_places(chain, places)
    return heaps_of(chain, places)[-1]


def heaps_along(chain, places):
    """The tuple of the heaps from the empty one on, behind each ring."""
    check_chain(chain)
    check_places(chain, places)
    return tuple(heaps_of(chain, places))
