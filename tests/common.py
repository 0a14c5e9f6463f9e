"""Values that several test files use, and a driver for tables of calls with wrong arguments."""

import copy

from ringstairs.errors import (
    InvalidBox, InvalidChain, InvalidDeal, InvalidFilling, InvalidHeap, InvalidMap, InvalidNumber, InvalidOperation,
    InvalidTuple, InvalidWeb, InvalidWord, ParseError,
)
from ringstairs.house.shelf import Shelf
from ringstairs.join.pieces import Piece
from ringstairs.turns.rounds import Round

PAIR = ((3, 1), (4, 1))
TRIO = ((5, 1), (4, 2), (7, 3))
EVEN = ((2, 1),) * 4
TWELVE = ((3, 1), (4, 2), (5, 3), (2, 1), (60, 7), (6, 4), (7, 2), (8, 6), (9, 3), (3, 2), (10, 5), (4, 3))
TRIANGLE = (3, ((0, 1), (0, 2), (1, 2)))
SQUARE = (4, ((0, 1), (0, 2), (1, 3), (2, 3), (2, 3)))

LONG = 10 ** 60
MOST = LONG - 1
ODD_PIECE = Piece(SQUARE, 0, 1, (0, 1, 1, 0))
RING_PIECE = Piece(TRIANGLE, 1, 0, (1, 0, 1))
TURN = Round((3, 1, 2))
SHORT = 10 ** 50
LITTLE = Shelf(((3, 1),), {"one": {(0, 1): 1}})


def nested(depth):
    value = 1
    for _ in range(depth):
        value = (value,)
    return value


def nested_list(depth):
    value = {}
    for _ in range(depth):
        value = [value]
    return value


# Nothing here is an integer of at most sixty digits, and nothing a chain, a web, a deal or a tuple of places.
NO_INTEGERS = (
    True, False, None, "", "1", "3,1 4,1", (), (1,), (1, 2), [], [1], {}, {1: 1}, (None,), ((),), ([],), ({},),
    LONG, -LONG, 10 ** 219, 1 - 10 ** 220, nested(8), nested_list(7), ODD_PIECE, (ODD_PIECE,),
    "x" * 20000, "\t\n", TURN, (TURN, TURN),
)
NO_RINGS = NO_INTEGERS[:8] + (
    0, 3, (3,), (3, 0), (3, 3), (3, -1), (1, 0), (1, 1), (0, 0), (61, 1), (-3, 1), (3, 1, 1), (3, True), (True, 1),
    (3, None), ("3", "1"), [3, 1], {3: 1}, ((3, 1),), (3, (1,)), (LONG, 1), (3, LONG), "31", None, ODD_PIECE,
)
NO_CHAINS = NO_INTEGERS + (
    0, 3, (3, 1), [(3, 1), (4, 1)], ([3, 1],), {(3, 1): 1}, ((3, 1),) * 13, ((3, 1), None), (((3, 1),),),
    ((3, 1), (4, 0)), ((3, 1), (4, 4)), ((3, 1), (1, 0)), ((3, 1), (61, 1)), ((3, True),), ((3, 1), [4, 1]),
    ((3, 1, 0),), ((3, -1),), (("3", "1"),), ((3, 1), True), (ODD_PIECE,), ((3, ODD_PIECE),),
)
# For the chain PAIR.
NO_DEALS = (
    True, False, None, 0, 1, "", "0,0:1", (), [], [((0, 0), 1)], (((0, 0), 1),), {0: 1}, {"00": 1}, {(0,): 1},
    {(0, 0, 0): 1}, {(0, 3): 1}, {(1, 4): 1}, {(2, 0): 1}, {(-1, 0): 1}, {(0, -1): 1}, {(False, 0): 1},
    {(0, True): 1}, {(0, 0): True}, {(0, 0): None}, {(0, 0): "1"}, {(0, 0): (1,)}, {(0, 0): [1]},
    {(0, 0): LONG}, {(0, 0): -LONG}, {(0, 0): 10 ** 219}, {(0, 0): 1, None: 1}, {((0, 0),): 1}, {(0, 0): ODD_PIECE},
    {(0, LONG): 1}, {(0, None): 1}, {(0, (0,)): 1}, ODD_PIECE, {(0, 0): 1, (1, 0): {}}, nested_list(7),
)
NO_PLACES = (
    True, None, 0, "", "00", (), (0,), (0, 0, 0), [0, 0], (3, 0), (0, 4), (-1, 0), (0, -1), (True, 0), (0, False),
    (0, None), (0, "0"), ((0, 0),), (0, (0,)), {0: 0}, (0, LONG), ([0], 0), ODD_PIECE, (ODD_PIECE, 0), {},
)
NO_CLASSES = (
    True, None, 0, "", (), (1,), (1, (0, 0), 0), [1, (0, 0)], (True, (0, 0)), (None, (0, 0)), ("1", (0, 0)),
    (LONG, (0, 0)), (-LONG, (0, 0)), ((0, 0), 1), (1, [0, 0]), (1, (0,)), (1, (0, 4)), (1, (3, 0)), (1, (0, True)),
    (1, (0, -1)), (1, None), {1: (0, 0)}, ODD_PIECE, (1, ODD_PIECE), ((1,), (0, 0)),
)
NO_WEBS = NO_INTEGERS + (
    0, 1, (0, ()), (13, ((0, 1),)), (2, ()), (3, ((0, 1),)), (4, ((0, 1), (2, 3))), (2, ((1, 0),)), (2, ((0, 0),)),
    (2, ((0, 2),)), (2, ((-1, 1),)), (2, [(0, 1)]), (2, ([0, 1],)), [2, ((0, 1),)], (3, ((0, 2), (0, 1))),
    (2, ((0, 1),) * 41), (2, ((0, 1, 1),)), (True, ()), (2, ((False, True),)), (2, ((False, 1),)), (2, ((0, True),)),
    (2, ((0, None),)), (2, None), (1, ((0, 0),)), (2, {(0, 1): 1}), (2, ((0, 1),), 0), (2, (0, 1)), ("2", ((0, 1),)),
    (3, ((0, 1), (1, 1), (1, 2))), (3, ((0, 1), (0, 2), (2, 1))), (2, ((0, 1), (1, 1))),
    (2, (ODD_PIECE,)), (LONG, ((0, 1),)), (2, ((0, LONG),)),
)
# For the web TRIANGLE.
NO_WEB_DEALS = (
    True, None, 0, "", (), (0,), (0, 0), (0, 0, 0, 0), [0, 0, 0], (101, 0, 0), (0, 0, -101), (True, 0, 0),
    (0, None, 0), (0, 0, "0"), {0: 0, 1: 0, 2: 0}, (0, 0, (0,)), (LONG, 0, 0), ((0, 0, 0),), ODD_PIECE,
    (0, ODD_PIECE, 0), (0, [], 0),
)
NO_MOVES = (
    True, None, 0, "", (), (0,), (0, 0), (0, 0, 0, 0), [0, 0, 0], (LONG, 0, 0), (0, 0, -LONG), (True, 0, 0),
    (0, None, 0), (0, 0, "0"), {0: 0, 1: 0, 2: 0}, (0, 0, (0,)), ((0, 0, 0),), ODD_PIECE, (0, ODD_PIECE, 0),
)
NO_SPOTS = NO_INTEGERS + (-1, 3, 12)
NO_TAKEN = NO_INTEGERS + (-1, 5, 100)
NO_HEAPS = (
    True, None, 0, 1, "", "1", [], [1], {}, {1: 1}, (0,), (1, 0), (1, 2), (-1,), (True,), (2, True), (None,), ((1,),),
    (61,), (1,) * 61, (60,) * 61, (LONG,), ("1",), ([1],), (2, ODD_PIECE), ODD_PIECE, nested(8), (3, 2, 2, 3),
)
NO_SIDES = NO_INTEGERS + (61, 100)
NO_COUNTS = NO_INTEGERS + (-1, -LONG + 1)
NO_PIECES = (
    True, None, 0, "", (), [ODD_PIECE], (TRIANGLE, 1, 0, (1, 0, 1)), (ODD_PIECE, None), (None, ODD_PIECE),
    (ODD_PIECE,) * 7, ODD_PIECE, {0: ODD_PIECE}, ((ODD_PIECE,),), (ODD_PIECE, True), {}, "piece",
)
NO_PIECE = (True, None, 0, "", (), (ODD_PIECE,), [ODD_PIECE], TRIANGLE, {}, (TRIANGLE, 1, 0, (1, 0, 1)), "piece")
NO_PIECE_ENDS = NO_INTEGERS + (401, -401, 1000)
NO_JOINED_ENDS = NO_INTEGERS + (51, -51, 400)
NO_PIECE_WEBS = NO_WEBS + ((7, tuple((0, p) for p in range(1, 7))), (2, ((0, 1),) * 10))
NO_PIECE_DEALS = NO_WEB_DEALS + ((6, 0, 0), (0, 0, -6), (100, 0, 0))
NO_ROUND_VALUES = NO_INTEGERS[:7] + NO_INTEGERS[9:] + (
    0, 1, (True,), (0, 2), (0, 1, 3), (1, 1), (0, -2), [0, 1], {0: 1}, (0, True), (None, 0), (0, None),
    ("0", "1"), ((0,), (1,)), tuple(range(61)), (LONG, 0), (0, LONG + 1), (0, -LONG - 1), (0, 1, None), (0, [1]),
)
NO_MAPS = (
    True, False, None, 0, 1, "", "round of 3", (), (3, 37, 2), [3, 1, 2], (TURN,), [TURN], {0: TURN}, ODD_PIECE, LONG,
    nested(8), {}, (0, 1, 32),
)
# For maps of the round 3: maps of other rounds are none.
NO_THREES = NO_MAPS + (Round((0,)), Round((1, 0)), Round((0, 1, 2, 3)), Round((0, 1, 2, 3, 4, 5)))
NO_ROUNDS = NO_INTEGERS + (0, -1, 61, 120)
NO_LETTER_ROUNDS = NO_ROUNDS + (1,)
NO_THIRDS = NO_INTEGERS + (-1, 3, 4)
# For the round 3.
NO_WORDS = (
    True, None, 0, 1, "", (), (0,), (0, ()) * 2, [0, ()], (0, []), (0, [1]), (True, ()), (None, ()), ("0", ()),
    (LONG, ()), (-LONG, (1,)), (0, (3,)), (0, (-1,)), (0, (True,)), (0, (0, None)), (0, (0, (1,))), (0, 0), ((), 0),
    (0, (1,) * 2001), {0: ()}, (0, ("1",)), (0, (LONG,)), (0, TURN), (TURN, (0,)), TURN, ((0,), (1,)), (0, {0: 1}),
)
NO_ORDERS = NO_INTEGERS + (1, 0, -2, 61)
# For k = 3.
NO_CORES = NO_HEAPS + ((2, 2), (3,), (1, 1, 1), (2, 1), (60,) * 60, TURN)
NO_CORE_WORDS = (
    True, None, 0, "", "012", [], [0], {}, (3,), (-1,), (0, True), (None,), ((0,),), (0, 3), (0,) * 201, ("0",),
    (LONG,), (0, [1]), TURN, (TURN,), nested(8), {0: 1},
)
NO_CHARGES = (
    True, None, 0, "", (), (0,), (0, 0), (0, 0, 0, 0), [0, 0, 0], (1, 0, 0), (1, -1, 1), (True, -1, 0), (0, None, 0),
    (LONG, -LONG, 0), ("0", "0", "0"), {0: 0}, TURN, (0, (0,), 0), ((0, 0, 0),), (0, 0, False),
)
NO_PARTS = (
    True, None, 0, 1, "", [], [1], {}, (0,), (3,), (1, 2), (2, 1, 2), (True,), (2, True), (-1,), (None,), ("1",),
    ((1,),), (2, 0), (LONG,), TURN, (2, [1]), (1, 1, 3),
)
# For the heap (4, 2).
NO_SQUARES = (
    True, None, 0, "", (), (0,), (0, 0, 0), [0, 0], (2, 0), (0, 4), (1, 2), (-1, 0), (0, -1), (True, 0), (0, False),
    (0, None), ("0", "0"), ((0, 0),), {0: 0}, (0, LONG), (LONG, 0), TURN, (0, TURN),
)
NO_LEAST_SIDES = NO_INTEGERS + (0, -1, 17, 60)
NO_CUT_SIDES = NO_INTEGERS + (-1, 7, 60)
NO_DOUBLED_SIDES = NO_INTEGERS + (0, -1, 11, 60)
NO_TIMES = NO_INTEGERS + (-1, 41, 60)
NO_MANY_LETTERS = NO_INTEGERS + (-1, 21, 30)
# For the chain PAIR.
NO_BOXES = NO_PLACES[:6] + (
    (None,), (None,) * 3, [None, None], {None: None}, (3, None), (None, 4), (-1, None), (None, -1), (True, None),
    (None, False), (None, "0"), ("", None), ((None, None),), (None, (0,)), {0: 0}, (None, LONG), ([], 0), TURN,
    (None, TURN), {},
)
# For the chain PAIR and the heap (1, 1).
NO_FILLINGS = (
    True, None, 0, "", (), (0, 1), ((0,),), ((0,), (1,), ()), [(0,), (1,)], ([0], (1,)), ((0,), [1]), ((0, 1),),
    ((0,), (0,)), ((1,), (0,)), ((1,), (1,)), ((0,), (2,)), ((-1,), (1,)), ((False,), (1,)), ((0,), (True,)),
    ((0,), (1, 1)), ((0,), ()), ((0,), None), ((None,), (1,)), {0: (0,), 1: (1,)}, (("0",), ("1",)), TURN,
    ((0,), TURN), ((0,), (LONG,)), (((0,),), ((1,),)),
)
NO_LIKE_CHAINS = NO_CHAINS + (((3, 1), (4, 1)), ((2, 1), (2, 1), (4, 1)), ((6, 2), (6, 3)))
NO_LEVELS = (
    True, None, 0, "", (), (1,), (0,) * 61, (1, 0), (0, 1, 0), [0, 1], {0: 1}, (True, 1), (0, True), (None, 0), ("0", "1"),
    ((0,), (1,)), (-SHORT, 0), (0, SHORT), (0, LONG), (-LONG, 0), (0, 10 ** 219), TURN, (0, TURN), (0, None), nested(8),
    LITTLE,
)
# For k = 3.
NO_THREE_LEVELS = NO_LEVELS + ((0, 0), (0, 0, 0, 0))
# Levels, but not as many as those of the first argument, or not of their sum.
NO_LIKE_LEVELS = NO_THREE_LEVELS + ((0, 0, 1), (-1, 0, 0), (-SHORT + 1, 0, SHORT - 2))
NO_SHORT_INTEGERS = NO_INTEGERS + (SHORT, -SHORT, MOST)
NO_RING_COUNTS = NO_INTEGERS + (0, -1, 13, 60)
NO_WISHES = (
    True, None, 0, "", [], [(0, 0, 0)], {}, (0, 0, 0), ((0, 0),), ((0, 0, 0, 0),), ([0, 0, 0],), ((101, 0, 0),),
    ((0, -101, 0),), ((0, 0, 41),), ((0, 0, -1),), ((True, 0, 0),), ((0, False, 0),), ((0, 0, True),), ((0, 0, None),),
    (("0", 0, 0),), ((0, 0, 0),) * 61, ((0, 0, 0), None), (((0, 0, 0),),), ((0, LONG, 0),), TURN, (TURN,), ((0, 0, TURN),),
    nested(8), LITTLE, {(0, 0, 0): 1},
)
# For two members.
NO_LEFT_GAPS = (
    True, None, 0, "", (), [0, 1], {0: 1}, (1, 0), (1, 1), (0, 31), (-1, 0), (True, 2), (0, True), (0, None), ("0", "1"),
    ((0, 1),), (0, 1, 2, 3, 4, 5, 6, 7, 8), (0, LONG), ((0,), (1,)), TURN, (0, TURN), nested(8), LITTLE,
)
NO_RIGHT_GAPS = NO_LEFT_GAPS + ((0,), (0, 1, 2))
NO_RING_INDICES = NO_INTEGERS + (-1, 2, 12)
# For the chain PAIR.
NO_NAMED = (
    True, None, 0, "", (), [], [("a", {})], (("a", {}),), {"a": None}, {"a": ()}, {"a": []}, {"": {}}, {"A": {}},
    {"1a": {}}, {"abcdefghi": {}}, {"a b": {}}, {"a_": {}}, {0: {}}, {None: {}}, {("a",): {}}, {True: {}},
    {"a": {}, "B": {}}, {"a": {(0, 3): 1}}, {"a": {(2, 0): 1}}, {"a": {(0, 0): SHORT}}, {"a": {(0, 0): -SHORT}},
    {"a": {(0, 0): True}}, {"a": {(0, 0): None}}, {"a": {(0, 0): SHORT - 1, (1, 1): 1}}, {"a": {0: 1}},
    {"a": {(0, 0): 1 - SHORT, (1, 1): -1}}, {"a": {(0, 0): LONG}}, {(0, 0): 1}, TURN, LITTLE, {"a": TURN},
    dict(("n" + str(at), {}) for at in range(21)), "x" * 20000,
)
# By their form, and for the deals "one" and "two" on the chain PAIR.
NO_QUESTION_FORMS = (
    True, None, 0, "", (), ("alike",), ("alike", "one"), ("alike", "one", "two", "two"), ["alike", "one", "two"],
    ("alike", "One", "two"), ("alike", "one", 2), ("alike", None, "two"), ("like", "one", "two"), ("rich", "one"),
    ("rich", "one", -1), ("rich", "one", 13), ("rich", "one", True), ("rich", "one", "1"), ("rich", 1, "one"),
    ("rich", "one", None), ("rich", ("one",), 1), ("some", 61, 0), ("some", -61, 0), ("some", 0, 13), ("some", 0, -1),
    ("some", True, 0), ("some", 0, False), ("some", "0", 0), ("some", 0, LONG), ("some", "one", 0), (TURN, "one", 1),
    ("rich", TURN, 1), ("alike", "", "one"), ("alike", "abcdefghi", "one"), TURN, LITTLE, nested(8), {"alike": "one"},
    ("RICH", "one", 1), (None, "one", 1), (("rich",), "one", 1), ([], "one", 1),
)
NO_QUESTIONS = NO_QUESTION_FORMS + (
    ("alike", "one", "three"), ("alike", "three", "one"), ("rich", "three", 1), ("some", -60, 12), ("some", -41, 0),
)
NO_VERDICTS = (0, 1, None, "True", "yes", (), (True,), [True], {}, TURN, LITTLE, LONG, {True: True})
NO_EDIT_FORMS = (
    True, None, 0, "", (), ("put",), ("put", "a"), ("put", "a", {}, {}), ["put", "a", {}], ("put", "A", {}),
    ("put", 1, {}), ("put", "a", None), ("put", "a", ()), ("put", "a", {0: 1}), ("put", "a", {(0, 60): 1}),
    ("put", "a", {(60, 0): 1}), ("put", "a", {(-1, 0): 1}), ("put", "a", {(0, 0): SHORT}), ("put", "a", {(0, 0): True}),
    ("put", "a", {(True, 0): 1}), ("put", "a", {(0, 0, 0): 1}), ("put", "a", {(0, 0): None}), ("put", "a", [(0, 0)]),
    ("drop", "a", "b", "c"), ("out", 0, 0, 0), ("drop",), ("drop", 1), ("drop", "a", "b"), ("drop", ""), ("drop", None), ("drop", "abcdefghi"), ("ring", 0),
    ("ring", 0, (1, 1)), ("ring", 0, (3, 3)), ("ring", 0, [3, 1]), ("ring", 13, (3, 1)), ("ring", -1, (3, 1)),
    ("ring", True, (3, 1)), ("ring", 0, None), ("ring", (3, 1), 0), ("ring", 0, (3, 1), 0), ("out",), ("out", 13),
    ("out", -1), ("out", False), ("out", "a"), ("out", 0, 0), ("turn",), ("turn", 13), ("turn", None), ("turn", 0, 1),
    ("turn", LONG), ("flip", 0), (None, 0), (TURN, 0), ("put", TURN, {}), ("put", "a", TURN), TURN, LITTLE, nested(8),
    ("put", ["a"], {}), ("drop", ["a"]), {"drop": "a"}, ("put", "a", {(0, 0): LONG}), ("put", "a", {None: 1}),
)
NO_EDITS = NO_EDIT_FORMS + (
    (), [("turn", 0)], (("turn", 0),) * 11, ("turn", 0), (None,), (("turn", 0), None), (("turn", 0), ("flip", 0)),
    ((("turn", 0),),), {("turn", 0): 1}, (LITTLE,),
)
# For two editions, and two claims of the first one; None is an edition.
NO_EDITIONS = tuple(value for value in NO_INTEGERS if value is not None) + (0, -1, 3, 40)
NO_CLAIM_NUMBERS = NO_INTEGERS + (0, -1, 3, 20)
NO_SHELVES = (True, None, 0, "", (), [], {}, (LITTLE,), [LITTLE], {0: LITTLE}, TURN, PAIR, "shelf", Shelf, ODD_PIECE)
NO_TEXTS = (
    True, None, 0, 1, (), ("",), [], ["3"], {}, {"3": 1}, TURN, LITTLE, LONG, nested(8), " " * 20001, "3" * 20001,
)
NO_STRINGS = NO_TEXTS[:-2]
NO_TOLD = (
    True, False, "", "none", [], [1], (True,), ("1",), ([],), {0: 1}, {(0,): 1}, {(0, 60): 1}, {(60, 0): 1}, {(-1, 0): 1},
    {(0, 0): True}, {(0, 0): None}, {(0, 0): (1,)}, {(0, 0): LONG}, {(True, 0): 1}, {(0, None): 1}, {"00": 1}, LONG, -LONG,
    (LONG,), nested(9), (nested(8),), TURN, (TURN,), LITTLE, {(0, 0): TURN}, 10 ** 219, {((0, 0),): 1}, {(0, 0, 0): 1},
)
NO_LINES = NO_TEXTS[:-2] + (" " * 2001, "x" * 2001, "a\tb", "\n", "names\n", "\t", "x" * 20000)
NO_LINE_ROWS = (
    True, None, 0, "", "names", ["names"], {}, {"names": 1}, ("names",) * 41, ("names", None), ("names", 1), (("names",),),
    ("names", "\n"), ("x" * 2001,), ("names", "\t", ""), TURN, LITTLE, (LITTLE,), LONG, nested(8),
)

KINDS = {
    "ring": (InvalidChain, NO_RINGS),
    "chain": (InvalidChain, NO_CHAINS),
    "deal": (InvalidDeal, NO_DEALS),
    "places": (InvalidTuple, NO_PLACES),
    "class": (InvalidTuple, NO_CLASSES),
    "integer": (InvalidNumber, NO_INTEGERS),
    "count": (InvalidNumber, NO_COUNTS),
    "spot": (InvalidNumber, NO_SPOTS),
    "web": (InvalidWeb, NO_WEBS),
    "web deal": (InvalidDeal, NO_WEB_DEALS),
    "moves": (InvalidOperation, NO_MOVES),
    "taken": (InvalidNumber, NO_TAKEN),
    "heap": (InvalidHeap, NO_HEAPS),
    "side": (InvalidNumber, NO_SIDES),
    "piece": (InvalidOperation, NO_PIECE),
    "pieces": (InvalidOperation, NO_PIECES),
    "piece end": (InvalidNumber, NO_PIECE_ENDS),
    "joined end": (InvalidNumber, NO_JOINED_ENDS),
    "piece web": (InvalidWeb, NO_PIECE_WEBS),
    "piece deal": (InvalidDeal, NO_PIECE_DEALS),
    "round values": (InvalidMap, NO_ROUND_VALUES),
    "map": (InvalidMap, NO_MAPS),
    "like map": (InvalidMap, NO_THREES),
    "round": (InvalidNumber, NO_ROUNDS),
    "letter round": (InvalidNumber, NO_LETTER_ROUNDS),
    "third": (InvalidNumber, NO_THIRDS),
    "word": (InvalidWord, NO_WORDS),
    "order": (InvalidNumber, NO_ORDERS),
    "core": (InvalidHeap, NO_CORES),
    "core word": (InvalidWord, NO_CORE_WORDS),
    "charges": (InvalidOperation, NO_CHARGES),
    "parts": (InvalidOperation, NO_PARTS),
    "square": (InvalidOperation, NO_SQUARES),
    "least side": (InvalidNumber, NO_LEAST_SIDES),
    "cut side": (InvalidNumber, NO_CUT_SIDES),
    "doubled side": (InvalidNumber, NO_DOUBLED_SIDES),
    "times": (InvalidNumber, NO_TIMES),
    "many letters": (InvalidNumber, NO_MANY_LETTERS),
    "box": (InvalidBox, NO_BOXES),
    "filling": (InvalidFilling, NO_FILLINGS),
    "like chain": (InvalidChain, NO_LIKE_CHAINS),
    "levels": (InvalidOperation, NO_LEVELS),
    "three levels": (InvalidOperation, NO_THREE_LEVELS),
    "like levels": (InvalidOperation, NO_LIKE_LEVELS),
    "short integer": (InvalidNumber, NO_SHORT_INTEGERS),
    "ring count": (InvalidNumber, NO_RING_COUNTS),
    "wishes": (InvalidOperation, NO_WISHES),
    "left gaps": (InvalidOperation, NO_LEFT_GAPS),
    "right gaps": (InvalidOperation, NO_RIGHT_GAPS),
    "ring index": (InvalidNumber, NO_RING_INDICES),
    "named": (InvalidDeal, NO_NAMED),
    "named maybe": (InvalidDeal, tuple(value for value in NO_NAMED if value is not None)),
    "question": (InvalidOperation, NO_QUESTIONS),
    "verdict": (InvalidOperation, NO_VERDICTS),
    "edits": (InvalidOperation, NO_EDITS),
    "edit": (InvalidOperation, NO_EDIT_FORMS),
    "edition": (InvalidNumber, NO_EDITIONS),
    "claim number": (InvalidNumber, NO_CLAIM_NUMBERS),
    "shelf": (InvalidOperation, NO_SHELVES),
    "text": (ParseError, NO_TEXTS),
    "string": (ParseError, NO_STRINGS),
    "told": (InvalidOperation, NO_TOLD),
    "line": (InvalidOperation, NO_LINES),
    "lines": (InvalidOperation, NO_LINE_ROWS),
}



def once(values):
    """The values, each once, True other than 1."""
    return tuple({repr(value): value for value in values}.values())


# Everything that a judging function may be asked about.
PILE = once(tuple(
    value
    for _, values in KINDS.values()
    for value in values
) + (PAIR, TRIO, EVEN, TRIANGLE, SQUARE, (0, 0), (1, 3), {}, {(0, 1): 1}, {(0, 0): -5}, (0, 0, 0), (3, 1), (),
     ((0, 1), (1, 2)), ((0, 1, 2), (0, 0, 0)), (1, (0, 0)), {(0, 1): 0}, -3, 400, MOST, ((0,),), ((0, 1),),
     (0, ()), (1, (0, 1)), (None, None), (None, 2), (1, 1), (2, 1), (2, 2), ((0,), (1,)), (((),), ((1,),))))


def raised(case, error, call, *arguments):
    """The error that the call raises, which must be of just this class."""
    try:
        result = call(*arguments)
    except Exception as caught:
        case.assertIs(type(caught), error, (call, arguments, caught))
        return caught
    case.fail(f"{call} returned {result!r} instead of raising {error} for {arguments!r}"[:2000])
    return None


def check_wrong(case, call, good, kinds):
    """Try all wrong arguments alone, and each two of them at once.

    The first wrong one decides; arguments stay as they are. A kind None is a
    parameter for which nothing is wrong.
    """
    call(*good)
    for at, kind in enumerate(kinds):
        if kind is None:
            continue
        error, values = KINDS[kind]
        for wrong in values:
            arguments = list(good)
            arguments[at] = wrong
            before = copy.deepcopy(arguments)
            caught = raised(case, error, call, *arguments)
            case.assertEqual(before, arguments)
            if error is InvalidNumber:
                case.assertIs(caught.given, wrong)
            if error is ParseError:
                case.assertIsNone(caught.spot)
        for behind in range(at + 1, len(kinds)):
            if kinds[behind] is None:
                continue
            for wrong, worse in zip(values, reversed(KINDS[kinds[behind]][1])):
                arguments = list(good)
                arguments[at] = wrong
                arguments[behind] = worse
                caught = raised(case, error, call, *arguments)
                if error is InvalidNumber:
                    case.assertIs(caught.given, wrong)


def check_judge(case, judge, arguments, right=()):
    """The judge tells True or False of everything, and False of all but the right values."""
    for value in PILE:
        before = copy.deepcopy((arguments, value))
        told = judge(*arguments, value)
        case.assertIs(type(told), bool)
        case.assertEqual(before, (arguments, value))
        if not is_among(value, right):
            case.assertIs(told, False, (judge, value))
    for value in right:
        case.assertIs(judge(*arguments, value), True, (judge, value))


def is_among(value, others):
    """Whether the value is one of the others, True other than 1."""
    return any(repr(value) == repr(other) for other in others)
