"""Chosen by a told seed: edits, questions and shelves to try, and a slow model of what edits do."""

from ringstairs.errors import Refused, TooMany
from ringstairs.house.shelf import Shelf
from tests.samples import random_chain, random_deal

NAMES = ("a", "b1", "two", "z9", "eight888")


class Cells:
    """A chain whose places are cells that hold the chips of all names; the rings of a joint share one."""

    def __init__(self, chain, deals):
        self.rings = []
        for index, (many, door) in enumerate(chain):
            row = [{} for _ in range(many)]
            if index:
                row[door] = self.rings[-1][1][0]
            self.rings.append([door, row])
        self.names = list(deals)
        for name, deal in deals.items():
            for (index, spot), number in deal.items():
                cell = self.rings[index][1][spot]
                cell[name] = cell.get(name, 0) + number

    def told(self):
        chain = tuple((len(row), door) for door, row in self.rings)
        deals = {}
        for name in sorted(self.names):
            deals[name] = {}
            seen = []
            for index, (_, row) in enumerate(self.rings):
                for spot, cell in enumerate(row):
                    if not any(cell is other for other in seen) and cell.get(name, 0):
                        deals[name][(index, spot)] = cell[name]
                    seen.append(cell)
        # A joint has the name at the ring on its left.
        for deal in deals.values():
            for place in sorted(deal):
                assert place[0] == 0 or place[1] != self.rings[place[0]][0]
        return chain, deals

    def do(self, edit):
        word = edit[0]
        if word == "put":
            for _, row in self.rings:
                for cell in row:
                    cell.pop(edit[1], None)
            self.names = [name for name in self.names if name != edit[1]] + [edit[1]]
            for (index, spot), number in edit[2].items():
                cell = self.rings[index][1][spot]
                cell[edit[1]] = cell.get(edit[1], 0) + number
        elif word == "drop":
            self.names = [name for name in self.names if name != edit[1]]
            for _, row in self.rings:
                for cell in row:
                    cell.pop(edit[1], None)
        elif word == "turn":
            door, row = self.rings[edit[1]]
            self.rings[edit[1]] = [len(row) - door, [row[-spot % len(row)] for spot in range(len(row))]]
        elif word == "ring":
            self.put_in(edit[1], edit[2])
        else:
            self.leave_out(edit[1])

    def put_in(self, index, ring):
        many, door = ring
        row = [{} for _ in range(many)]
        if index > 0:
            row[door] = self.rings[index - 1][1][0]
        if index < len(self.rings):
            behind_door, behind = self.rings[index]
            if index > 0:
                behind[behind_door] = row[0]
            else:
                row[0] = behind[behind_door]
        self.rings.insert(index, [door, row])

    def leave_out(self, index):
        door, row = self.rings.pop(index)
        both = {name: row[0].get(name, 0) + row[door].get(name, 0) for name in self.names}
        if index > 0:
            self.rings[index - 1][1][0] = both
        if index < len(self.rings):
            behind_door, behind = self.rings[index]
            behind[behind_door] = both


def random_edit(rng, chain, deals):
    """An edit that is let, or nearly so."""
    word = rng.choice(("put", "put", "drop", "ring", "ring", "out", "turn"))
    if word == "put":
        return (word, rng.choice(NAMES), random_deal(rng, chain, rng.choice((1, 3, 10 ** 20))))
    if word == "drop":
        return (word, rng.choice(list(deals) or ["none"]))
    if word == "ring":
        return (word, rng.randint(0, len(chain)), random_chain(rng, 1, 7)[0])
    return (word, rng.randrange(len(chain)))


def random_question(rng, chain, deals):
    word = rng.choice(("alike", "rich", "some", "rich"))
    names = list(deals) or ["none"]
    if word == "alike":
        return (word, rng.choice(names), rng.choice(names))
    if word == "rich":
        return (word, rng.choice(names), rng.randint(0, 3))
    k = rng.randint(0, 4)
    return (word, rng.randint(0, 2 * len(chain)), k)


def random_named(rng, chain, most):
    return {name: random_deal(rng, chain, 3) for name in rng.sample(NAMES, rng.randint(0, most))}


def random_shelf(rng, calls, rings=4):
    """A shelf on which so many calls were tried."""
    chain = random_chain(rng, rings, 6)
    shelf = Shelf(chain, random_named(rng, chain, 3))
    for _ in range(calls):
        try_call(rng, shelf)
    return shelf


def try_call(rng, shelf):
    """Edit the shelf, or pin a claim, unless this is refused."""
    chain, deals = shelf.chain_at(), shelf.deals_at()
    try:
        if rng.random() < 0.4:
            shelf.pin(random_question(rng, chain, deals))
        else:
            shelf.edit(tuple(random_edit(rng, chain, deals) for _ in range(rng.choice((1, 1, 1, 2, 3)))))
    except (Refused, TooMany, ValueError):
        pass
