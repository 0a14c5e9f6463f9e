"""Fillings of heaps by the rings of a chain, and shortages of those that have none."""

from ringstairs.basics import is_between
from ringstairs.errors import TooMany
from ringstairs.fill.within import greatest_of, holders_of, lies_within, rests_within, steps_within, still_needed
from ringstairs.heap.heaps import (
    check_heap, heaped, heaps_of, holds, is_heap, labels_along, lowered, tips_of,
)
from ringstairs.link.chains import check_chain, lets, order_of
from ringstairs.link.classes import check_places
from ringstairs.rich.richness import is_risen

MAX_SQUARES = 42
MAX_KEPT = 1000


def check_filled(chain, heap):
    """Refuse what is no chain, no heap, or a heap of too many squares."""
    check_chain(chain)
    check_heap(heap)
    if sum(heap) > MAX_SQUARES:
        raise TooMany(MAX_SQUARES)


def rises(chain, heap, value):
    """Whether the value has an index of a ring for each square, rising in each row and column."""
    if not isinstance(value, tuple) or len(value) != len(heap):
        return False
    for at, column in enumerate(value):
        if not isinstance(column, tuple) or len(column) != heap[at]:
            return False
        if not all([is_between(index, 0, len(chain) - 1) for index in column]):
            return False
        if not is_risen(column, value[at - 1] if at > 0 else None):
            return False
    return True


def labels_in(filling):
    """The list of the pairs (index of a ring, diagonal) of the squares of a filling."""
    return [(index, at - row) for at, column in enumerate(filling) for row, index in enumerate(column)]


def fills(chain, heap, value):
    """Whether the value is a filling of what surely is a heap."""
    if not rises(chain, heap, value):
        return False
    rests = {}
    for index, diagonal in labels_in(value):
        rest = diagonal % order_of(chain[index])
        if rests.get(index, rest) != rest:
            return False
        rests[index] = rest
    return True


def is_filling(chain, heap, value):
    """Whether the value is a filling of the heap."""
    check_filled(chain, heap)
    return fills(chain, heap, value)


def does_fit(chain, heap, places, value):
    """Whether the value is a filling of the heap that fits the tuple."""
    check_filled(chain, heap)
    check_places(chain, places)
    if not rises(chain, heap, value):
        return False
    return all([lets(chain[index], places[index], diagonal) for index, diagonal in labels_in(value)])


def told_filling(heap, heaps):
    """The filling of a heap by growing heaps of which the last one holds it."""
    return tuple([tuple(column[:height]) for column, height in zip(labels_along(heaps), heap)])


def next_row(whole, row, order):
    """The greatest heaps that one ring makes of those of a row, each with the one that it is made of."""
    made = {heap: heap for heap in row}
    for heap in row:
        for more in steps_within(whole, heap, order):
            made[more] = heap
    return {heap: made[heap] for heap in greatest_of(list(made))}


def rows_of(chain, heap):
    """For each number of rings the greatest heaps within the heap that these make."""
    rows = [{(): ()}]
    for ring in chain:
        rows.append(next_row(heap, rows[-1], order_of(ring)))
    return rows


def some_filling(chain, heap):
    """Any filling of the heap, None if there is none."""
    check_filled(chain, heap)
    rows = rows_of(chain, heap)
    if heap not in rows[-1]:
        return None
    heaps = [heap]
    for row in reversed(rows[1:]):
        heaps.append(row[heaps[-1]])
    return told_filling(heap, heaps[::-1])


def fitting(chain, heap, places):
    """Any filling of the heap that fits the tuple, None if there is none."""
    check_filled(chain, heap)
    check_places(chain, places)
    heaps = heaps_of(chain, places)
    if not holds(heaps[-1], heap):
        return None
    return told_filling(heap, heaps)


def shortage(chain, heap):
    """Any shortage of the heap, None if it has a filling."""
    check_filled(chain, heap)
    rows = rows_of(chain, heap)
    if heap in rows[-1]:
        return None
    # Whatever is behind the last ring lacks a square that can be taken away: so few heaps do for the last row.
    last = [lowered(heap, [column]) for column, _ in tips_of(heap)]
    return tuple([tuple(row) for row in rows[:-1]] + [tuple(last)])


def are_rows(chain, heap, value):
    """Whether the value is as many rows of heaps within the heap as a shortage has."""
    if not isinstance(value, tuple) or len(value) != len(chain) + 1:
        return False
    for row in value:
        if not isinstance(row, tuple) or not 1 <= len(row) <= MAX_KEPT:
            return False
        if not all([is_heap(part) and holds(heap, part) for part in row]):
            return False
    return True


def leads_on(whole, row, behind, order):
    """Whether each heap of a row lies in one of the row behind, and so does all that one ring makes of it."""
    holders = holders_of(behind)
    for heap in row:
        for more in [heap] + steps_within(whole, heap, order):
            if not lies_within(holders, len(behind), more):
                return False
    return True


def is_shortage(chain, heap, value):
    """Whether the value is a shortage of the heap."""
    check_filled(chain, heap)
    if not are_rows(chain, heap, value) or value[0] != ((),) or heap in value[-1]:
        return False
    for index, ring in enumerate(chain):
        if not leads_on(heap, value[index], value[index + 1], order_of(ring)):
            return False
    return True


def fewest_letters(chain, heap):
    """The least number of unlike letters in a filling, None if there is none."""
    check_filled(chain, heap)
    levels = [[()]]
    for index, ring in enumerate(chain):
        need = still_needed(heap, len(chain) - index - 1)
        made = [steps_of(heap, level, order_of(ring)) for level in levels]
        kept = [old + new for old, new in zip(levels + [[]], [[]] + made)]
        levels = [greatest_of([more for more in level if holds(more, need)]) for level in kept]
    for many, level in enumerate(levels):
        if heap in level:
            return many
    return None


def steps_of(whole, heaps, order):
    """The list of what one ring of the order can make of each heap of a list, if it adds something."""
    return [more for heap in heaps for more in steps_within(whole, heap, order)]


def ways_on(whole, ways, order):
    """In how many ways each heap is made by one ring more of the heaps of a dict of such numbers."""
    more = {heap: ways[heap] for heap in ways}
    for heap in ways:
        columns = rests_within(whole, heap, order)
        for rest in columns:
            for made in some_added(heap, columns[rest]):
                more[made] = more.get(made, 0) + ways[heap]
    return more


def some_added(heap, columns):
    """The list of the heaps that come of the heap by squares on some of the columns, on one at least."""
    made = [heap]
    for column in columns:
        made = made + [heaped(one, [column]) for one in made]
    return made[1:]


def fillings_count(chain, heap):
    """How many fillings the heap has."""
    check_filled(chain, heap)
    ways = {(): 1}
    for index, ring in enumerate(chain):
        need = still_needed(heap, len(chain) - index - 1)
        made = ways_on(heap, ways, order_of(ring))
        ways = {more: made[more] for more in made if holds(more, need)}
    return ways.get(heap, 0)
