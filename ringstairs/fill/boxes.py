"""Boxes of classes, and the greatest ones whose heaps all hold a heap."""

from ringstairs.basics import is_between
from ringstairs.errors import InvalidBox, InvalidFilling, TooMany
from ringstairs.fill.fillings import check_filled, fills, labels_in
from ringstairs.fill.within import grown_within, heaps_within, rests_within, steps_within
from ringstairs.heap.heaps import check_heap, grown_by, holds
from ringstairs.link.chains import check_chain, order_of
from ringstairs.link.classes import check_places, lies_told

MAX_BOXED = 16
MAX_RINGS = 8
MAX_BOXES = 500
OPEN = -1


def lies_boxed(chain, value):
    """Whether the value is a box of classes of what surely is a chain."""
    if not isinstance(value, tuple) or len(value) != len(chain):
        return False
    return all([place is None or is_between(place, 0, ring[0] - 1) for place, ring in zip(value, chain)])


def check_box(chain, box):
    """Refuse what is no box of classes of what surely is a chain."""
    if not lies_boxed(chain, box):
        raise InvalidBox("no box of classes of this chain")


def is_box(chain, value):
    """Whether the value is a box of classes."""
    check_chain(chain)
    return lies_boxed(chain, value)


def lies_in(box, places):
    """Whether what surely is a tuple of places, or a box, has each place that the box tells."""
    return all([told is None or told == place for told, place in zip(box, places)])


def is_in_box(chain, box, value):
    """Whether the value is a tuple of places in the box."""
    check_chain(chain)
    check_box(chain, box)
    return lies_told(chain, value) and lies_in(box, value)


def size_of(chain, box):
    """How many tuples of places are in the box."""
    check_chain(chain)
    check_box(chain, box)
    many = 1
    for place, ring in zip(box, chain):
        if place is None:
            many = many * ring[0]
    return many


def check_boxes(chain, one, other):
    """Refuse what is no chain with two boxes of its classes."""
    check_chain(chain)
    check_box(chain, one)
    check_box(chain, other)


def holds_box(chain, one, other):
    """Whether all tuples of the second box are in the first one."""
    check_boxes(chain, one, other)
    return lies_in(one, other)


def meeting(chain, one, other):
    """The box of all tuples that are in both boxes, None if there are none."""
    check_boxes(chain, one, other)
    both = []
    for place, met in zip(one, other):
        if place is not None and met is not None and place != met:
            return None
        both.append(met if place is None else place)
    return tuple(both)


def box_of(chain, heap, filling):
    """The box that a filling names."""
    check_filled(chain, heap)
    if not fills(chain, heap, filling):
        raise InvalidFilling("no filling of this heap")
    told = [None for _ in chain]
    for index, diagonal in labels_in(filling):
        told[index] = diagonal * chain[index][1] % chain[index][0]
    return tuple(told)


def grows_over(chain, heap, box):
    """Whether the rings whose places are told grow a heap that holds the heap, without the others."""
    grown = ()
    for ring, place in zip(chain, box):
        if place is not None:
            grown = grown_by(grown, ring, place)
    return holds(grown, heap)


def check_filler(chain, heap, box):
    """Refuse what is no chain, no heap to be filled, or no box of classes."""
    check_filled(chain, heap)
    check_box(chain, box)


def does_fill(chain, heap, box):
    """Whether the heaps of all tuples in the box hold the heap."""
    check_filler(chain, heap, box)
    return grows_over(chain, heap, box)


def left_out(chain, heap, box):
    """Any tuple in the box whose heap does not hold the heap, None if the box fills it."""
    check_filler(chain, heap, box)
    if grows_over(chain, heap, box):
        return None
    told = list(box)
    for index, place in enumerate(box):
        if place is None:
            # The places 0 and 1 let no diagonal both: what both grow would grow without this ring.
            told[index] = 0
            if grows_over(chain, heap, told):
                told[index] = 1
    return tuple(told)


def hopeful_heaps(chain, heap):
    """For each index of a ring, and behind the last one, the heaps within the heap of which the rest can make it."""
    rows = [{heap: True}]
    every = heaps_within(heap)
    for ring in reversed(chain):
        order = order_of(ring)
        ahead = rows[-1]
        rows.append({part: True for part in every if is_hopeful(heap, part, order, ahead)})
    return rows[::-1]


def is_hopeful(whole, heap, order, ahead):
    """Whether the heap, or what one ring makes of it, is among those of a dict."""
    return heap in ahead or any([more in ahead for more in steps_within(whole, heap, order)])


def told_on(whole, state, ring, rest):
    """The state behind a told ring that lets one rest of the diagonals, None if a told ring is not needed.

    A state has the told places, OPEN for none, the heap that their rings grow,
    and the heaps that these grow without one of them each.
    """
    places, heap, others = state
    order = order_of(ring)
    more = grown_within(whole, heap, order, rest)
    without = [grown_within(whole, other, order, rest) for other in others] + [heap]
    if more in without:
        return None
    return (places + (rest * ring[1] % ring[0],), more, without)


def states_behind(whole, states, ring, hopeful):
    """The list of the states behind one ring more, of those of which the rest can make the whole heap."""
    found = []
    for state in states:
        places, heap, others = state
        found.append((places + (OPEN,), heap, others))
        for rest in rests_within(whole, heap, order_of(ring)):
            found.append(told_on(whole, state, ring, rest))
    return [state for state in found if state is not None and state[1] in hopeful]


def boxes_over(chain, heap):
    """The ascending list of the greatest boxes that fill the heap, with OPEN for a place that is not told."""
    hopeful = hopeful_heaps(chain, heap)
    states = [((), (), [])] if () in hopeful[0] else []
    for index, ring in enumerate(chain):
        states = states_behind(heap, states, ring, hopeful[index + 1])
    return sorted([state[0] for state in states])


def told_boxes(chain, heap):
    """The greatest boxes that fill the heap, unless there are too many rings, squares or boxes."""
    if len(chain) > MAX_RINGS:
        raise TooMany(MAX_RINGS)
    if sum(heap) > MAX_BOXED:
        raise TooMany(MAX_BOXED)
    boxes = boxes_over(chain, heap)
    if len(boxes) > MAX_BOXES:
        raise TooMany(MAX_BOXES)
    return tuple([tuple([None if place == OPEN else place for place in places]) for places in boxes])


def greatest_boxes(chain, heap):
    """All boxes that fill the heap and lie in no other box that fills it."""
    check_chain(chain)
    check_heap(heap)
    return told_boxes(chain, heap)


def boxes_with(chain, heap, places):
    """The greatest boxes that fill the heap and that the tuple is in."""
    check_chain(chain)
    check_heap(heap)
    check_places(chain, places)
    return tuple([box for box in told_boxes(chain, heap) if lies_in(box, places)])
