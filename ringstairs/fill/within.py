"""Heaps within a heap: what grows there, and which heaps lie within which."""

from ringstairs.heap.heaps import heaped, height_at, open_columns, tips_of


def rests_within(whole, heap, order):
    """For each rest of the diagonals on which squares of the whole heap can be added the list of their columns."""
    columns = {}
    for column in open_columns(heap):
        height = height_at(heap, column)
        if height < height_at(whole, column):
            rest = (column - height) % order
            columns[rest] = columns.get(rest, []) + [column]
    return columns


def steps_within(whole, heap, order):
    """The list of the heaps that one ring of the order can make of the heap, if it adds a square of the whole one."""
    columns = rests_within(whole, heap, order)
    return [heaped(heap, columns[rest]) for rest in columns]


def depth_at(whole, column, row):
    """How many squares the longest way has that goes right and up from a square of the heap."""
    ends = [at + height for at, height in enumerate(whole) if at >= column and height > row]
    return max(ends) - column - row


def still_needed(whole, left):
    """The heap of the squares that must be there if so many rings are left to make the whole heap."""
    heights = []
    for column, most in enumerate(whole):
        heights.append(len([row for row in range(most) if depth_at(whole, column, row) > left]))
    return tuple([height for height in heights if height > 0])


def holders_of(heaps):
    """For each square the bits of the heaps of a list that have it."""
    holders = {}
    for at, heap in enumerate(heaps):
        note_heap(holders, at, heap)
    return holders


def note_heap(holders, at, heap):
    """Note in a dict of bits that the heap with this bit has its squares."""
    for column, most in enumerate(heap):
        for height in range(1, most + 1):
            holders[(column, height)] = holders.get((column, height), 0) | (1 << at)


def lies_within(holders, many, heap):
    """Whether the heap lies within one of so many heaps whose bits are noted."""
    bits = (1 << many) - 1
    for square in tips_of(heap):
        bits = bits & holders.get(square, 0)
    return bits > 0


def greatest_of(heaps):
    """The list of the heaps of a list that lie within no other one, each once."""
    kept = []
    holders = {}
    for heap in sorted(heaps, key=sum, reverse=True):
        if not lies_within(holders, len(kept), heap):
            note_heap(holders, len(kept), heap)
            kept.append(heap)
    return kept


def grown_within(whole, heap, order, rest):
    """The heap with all squares of the whole one that can be added and whose diagonals have the rest."""
    return heaped(heap, rests_within(whole, heap, order).get(rest, []))


def heaps_within(whole):
    """The list of all heaps within the heap."""
    heaps = [()]
    for column, most in enumerate(whole):
        taller = [heap + (height,) for heap in heaps if len(heap) == column for height in range(1, most + 1)]
        heaps = heaps + [heap for heap in taller if column == 0 or heap[column] <= heap[column - 1]]
    return heaps
