"""A shelf: named deals on a chain, with editions, and claims about them."""

from ringstairs.basics import are_short, check_between, is_between, is_pair
from ringstairs.errors import InvalidDeal, InvalidOperation, Refused, TooMany
from ringstairs.house.asking import can_ask, decided, supports
from ringstairs.house.editing import are_short_deals, behind_edit
from ringstairs.house.named import copied_deals, is_name, is_short_deal, ordered, written_deal
from ringstairs.link.chains import MOST_PLACES, MOST_RINGS, check_chain, is_ring, lies_dealt

MAX_NAMED = 20
MAX_CLAIMS = 20
MAX_EDITIONS = 40
MAX_EDITS = 10
MOST_ASKED = 12
MOST_DEGREE = 60


def is_question(value):
    """Whether the value is a question by its form."""
    if not isinstance(value, tuple) or len(value) != 3:
        return False
    word, first, second = value
    if word == "alike":
        return is_name(first) and is_name(second)
    if word == "rich":
        return is_name(first) and is_between(second, 0, MOST_ASKED)
    if word == "some":
        return is_between(first, -MOST_DEGREE, MOST_DEGREE) and is_between(second, 0, MOST_ASKED)
    return False


def are_named(chain, value):
    """Whether the value is named deals on what surely is a chain."""
    if not isinstance(value, dict) or len(value) > MAX_NAMED:
        return False
    return all([is_name(name) and is_short_deal(chain, value[name]) for name in value])


def check_named(chain, deals):
    """Refuse what is no chain with named deals."""
    check_chain(chain)
    if not are_named(chain, deals):
        raise InvalidDeal("no named deals on this chain")


def check_question(chain, deals, question):
    """Refuse what is no question about what surely are a chain and named deals."""
    if not is_question(question) or not can_ask(chain, deals, question):
        raise InvalidOperation("no question about these deals")


def decide(chain, deals, question):
    """The pair (verdict, paper) of a question."""
    check_named(chain, deals)
    check_question(chain, deals, question)
    return decided(chain, deals, question)


def is_paper(chain, deals, question, verdict, value):
    """Whether the value is a paper for the verdict of a question."""
    check_named(chain, deals)
    check_question(chain, deals, question)
    if not isinstance(verdict, bool):
        raise InvalidOperation("no verdict")
    return supports(chain, deals, question, verdict, value)


def is_told_deal(value):
    """Whether the value is a deal by its form, on no told chain."""
    if not isinstance(value, dict) or not are_short(list(value.values())):
        return False
    return all([is_pair(place) and are_spots(place) for place in value])


def are_spots(place):
    """Whether both members of a pair are integers from 0 to 59."""
    return is_between(place[0], 0, MOST_PLACES - 1) and is_between(place[1], 0, MOST_PLACES - 1)


def is_edit(value):
    """Whether the value is an edit by its form."""
    if not isinstance(value, tuple) or not 2 <= len(value) <= 3:
        return False
    word, target = value[:2]
    if len(value) == 3:
        if word == "put":
            return is_name(target) and is_told_deal(value[2])
        return word == "ring" and is_between(target, 0, MOST_RINGS) and is_ring(value[2])
    if word == "drop":
        return is_name(target)
    return (word == "out" or word == "turn") and is_between(target, 0, MOST_RINGS)


def word_against(chain, deals, edit):
    """The word with which an edit is refused for its form or for the numbers of deals and rings, None if there is none.

    Of the words that apply it is the first one.
    """
    word, target = edit[:2]
    if word == "put":
        if not lies_dealt(chain, edit[2]):
            return "place"
        return "many" if target not in deals and len(deals) >= MAX_NAMED else None
    if word == "drop":
        return None if target in deals else "unknown"
    if word == "ring":
        if target > len(chain):
            return "unknown"
        return "many" if len(chain) >= MOST_RINGS else None
    if target >= len(chain):
        return "unknown"
    return "few" if word == "out" and len(chain) == 1 else None


def tried(chain, deals, edit):
    """The triple of the word with which an edit is refused, or None, and of the chain and the deals behind it."""
    word = word_against(chain, deals, edit)
    if word is not None:
        return (word, chain, deals)
    more, moved = behind_edit(chain, deals, edit)
    if not are_short_deals(moved):
        return ("great", chain, deals)
    return (None, more, moved)


def check_edits(edits):
    """Refuse what is no tuple of one to ten edits."""
    if not isinstance(edits, tuple) or not 1 <= len(edits) <= MAX_EDITS:
        raise InvalidOperation("too few or too many edits")
    if not all([is_edit(edit) for edit in edits]):
        raise InvalidOperation("no edits")


def behind_edits(chain, deals, edits):
    """The pair of the chain and the written named deals behind what surely are edits."""
    for index, edit in enumerate(edits):
        word, chain, deals = tried(chain, deals, edit)
        if word is not None:
            raise Refused(("edit", index, word))
    return (chain, deals)


def written_deals(chain, deals):
    """The written ones of what surely are named deals, in order."""
    return {name: written_deal(chain, deals[name]) for name in sorted(deals)}


def edited(chain, deals, edits):
    """The pair of the chain and the written named deals behind edits."""
    check_named(chain, deals)
    check_edits(edits)
    more, moved = behind_edits(chain, written_deals(chain, deals), edits)
    return (more, copied_deals(moved))


def copied_edit(edit):
    """A copy of an edit that shares no state with it."""
    if edit[0] == "put":
        return ("put", edit[1], ordered(edit[2]))
    return edit


def copied_paper(paper):
    """A copy of a paper that shares no state with it."""
    return ordered(paper) if isinstance(paper, dict) else paper


def next_standing(chain, deals, claim, ahead):
    """The standing of a claim behind an edition at which it has another one."""
    question, pinned, _ = claim
    if not can_ask(chain, deals, question):
        return ("fallen", None, None)
    if supports(chain, deals, question, pinned, ahead[2]):
        return ("stands", pinned, ahead[2])
    verdict, paper = decided(chain, deals, question)
    return ("another" if verdict == pinned else "fallen", verdict, paper)


class Shelf:
    """A chain with named deals, in all its editions, and claims about them."""

    def __init__(self, chain, deals=None):
        told = {} if deals is None else deals
        check_named(chain, told)
        # What is kept here is never changed, only left behind: so twins may share it.
        self._editions = [(chain, written_deals(chain, told))]
        self._claims = []
        self._standings = []
        self._history = []

    @property
    def editions(self):
        """How many editions there are."""
        return len(self._editions)

    @property
    def claims(self):
        """The triples (question, verdict, edition) of all claims."""
        return tuple(self._claims)

    @property
    def fallen(self):
        """The numbers of the claims that are fallen at the last edition."""
        return tuple([at + 1 for at, row in enumerate(self._standings) if row[-1][0] == "fallen"])

    @property
    def history(self):
        """All edits and pins that were done, in order."""
        return tuple([copied_call(call) for call in self._history])

    def edit(self, edits):
        """Add an edition, the last one behind edits, and return its number."""
        check_edits(edits)
        chain, deals = self._editions[-1]
        more, moved = behind_edits(chain, deals, edits)
        if len(self._editions) >= MAX_EDITIONS:
            raise TooMany(MAX_EDITIONS)
        self._editions.append((more, moved))
        self._standings = [
            row + [next_standing(more, moved, claim, row[-1])]
            for claim, row in zip(self._claims, self._standings)
        ]
        self._history.append(copied_call(("edit", edits)))
        return len(self._editions)

    def pin(self, question):
        """Add a claim at the last edition, and return its number."""
        chain, deals = self._editions[-1]
        check_question(chain, deals, question)
        if len(self._claims) >= MAX_CLAIMS:
            raise TooMany(MAX_CLAIMS)
        verdict, paper = decided(chain, deals, question)
        self._claims.append((question, verdict, len(self._editions)))
        self._standings.append([("stands", verdict, paper)])
        self._history.append(("pin", question))
        return len(self._claims)

    def edition_at(self, edition, first):
        """The number of an edition from the first one on that is asked for, None for the last one."""
        if edition is None:
            return len(self._editions)
        check_between(edition, first, len(self._editions))
        return edition

    def chain_at(self, edition=None):
        """The chain of an edition."""
        return self._editions[self.edition_at(edition, 1) - 1][0]

    def deals_at(self, edition=None):
        """The written named deals of an edition."""
        return copied_deals(self._editions[self.edition_at(edition, 1) - 1][1])

    def standing(self, number, edition=None):
        """The triple (word, verdict, paper) of a claim at an edition."""
        check_between(number, 1, len(self._claims))
        pinned = self._claims[number - 1][2]
        at = self.edition_at(edition, pinned)
        word, verdict, paper = self._standings[number - 1][at - pinned]
        return (word, verdict, copied_paper(paper))

    def twin(self):
        """An equal shelf that changes by itself."""
        chain, deals = self._editions[0]
        other = Shelf(chain, deals)
        other._editions = list(self._editions)
        other._claims = list(self._claims)
        other._standings = list(self._standings)
        other._history = list(self._history)
        return other

    def __contains__(self, value):
        return isinstance(value, str) and value in self._editions[-1][1]

    def __len__(self):
        return len(self._editions[-1][1])

    def __eq__(self, other):
        return (
            isinstance(other, Shelf) and self._editions == other._editions and self._claims == other._claims
        )

    def __str__(self):
        return f"shelf of {len(self)} deals on {len(self._editions[-1][0])} rings, edition {len(self._editions)}"


def copied_call(call):
    """A copy of a call that was done."""
    if call[0] == "edit":
        return ("edit", tuple([copied_edit(edit) for edit in call[1]]))
    return call
