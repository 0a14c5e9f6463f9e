"""Hands: edits and questions on a shelf beside others, committed at once."""

from ringstairs.errors import InvalidOperation, Refused, TooMany
from ringstairs.house.asking import can_ask, decided
from ringstairs.house.named import copied_deals
from ringstairs.house.shelf import MAX_EDITS, Shelf, check_question, copied_edit, is_edit, tried

MAX_CALLS = 40


def edits_in(calls):
    """The list of the edits among calls."""
    return [call[1] for call in calls if call[0] == "edit"]


def replayed(chain, deals, calls, does_ask):
    """The triple of the index of the call at which a replay fails, or None, and of the chain and the deals there.

    The questions are decided only if the replay asks them.
    """
    for index, call in enumerate(calls):
        if call[0] == "edit":
            word, chain, deals = tried(chain, deals, call[1])
            if word is not None:
                return (index, chain, deals)
        elif does_ask and is_told_else(chain, deals, call):
            return (index, chain, deals)
    return (None, chain, deals)


def is_told_else(chain, deals, call):
    """Whether a question is none about a chain and deals, or has another verdict there."""
    _, question, verdict = call
    return not can_ask(chain, deals, question) or decided(chain, deals, question)[0] != verdict


def copied_own(call):
    """A copy of a call of a hand."""
    return ("edit", copied_edit(call[1])) if call[0] == "edit" else call


class Hand:
    """Edits and questions from an edition of a shelf on, which the shelf does not know yet."""

    def __init__(self, shelf):
        if not isinstance(shelf, Shelf):
            raise InvalidOperation("no shelf")
        self._shelf = shelf
        self._base = shelf.editions
        self._chain = shelf.chain_at()
        self._deals = shelf.deals_at()
        self._calls = []

    @property
    def base(self):
        """The number of the edition on which the hand stands."""
        return self._base

    @property
    def calls(self):
        """The edits and the questions so far, in order."""
        return tuple([copied_own(call) for call in self._calls])

    @property
    def chain_now(self):
        """The chain behind the edits so far."""
        return self._chain

    @property
    def deals_now(self):
        """The written named deals behind the edits so far."""
        return copied_deals(self._deals)

    def change(self, edit):
        """Do an edit."""
        if not is_edit(edit):
            raise InvalidOperation("no edit")
        word, chain, deals = tried(self._chain, self._deals, edit)
        if word is not None:
            raise Refused(("edit", word))
        if len(edits_in(self._calls)) >= MAX_EDITS:
            raise TooMany(MAX_EDITS)
        self.check_calls()
        self._chain = chain
        self._deals = deals
        self._calls.append(("edit", copied_edit(edit)))

    def ask(self, question):
        """The pair (verdict, paper) of a question about the chain and the deals of the hand."""
        check_question(self._chain, self._deals, question)
        self.check_calls()
        verdict, paper = decided(self._chain, self._deals, question)
        self._calls.append(("ask", question, verdict))
        return (verdict, paper)

    def check_calls(self):
        """Refuse one call more than there may be."""
        if len(self._calls) >= MAX_CALLS:
            raise TooMany(MAX_CALLS)

    def replay(self, does_ask):
        """The chain and the deals behind the calls as they are replayed on the last edition."""
        index, chain, deals = replayed(self._shelf.chain_at(), self._shelf.deals_at(), self._calls, does_ask)
        if index is not None:
            raise Refused(("call", index))
        return (chain, deals)

    def stand_on(self, chain, deals, calls):
        """Stand on the last edition, with these calls behind it."""
        self._base = self._shelf.editions
        self._chain = chain
        self._deals = deals
        self._calls = calls

    def commit(self):
        """Make the edits a further edition of the shelf, and return its number."""
        edits = edits_in(self._calls)
        if not edits:
            raise Refused(("empty",))
        chain, deals = self.replay(True)
        number = self._shelf.edit(tuple(edits))
        self.stand_on(chain, deals, [])
        return number

    def renew(self):
        """Stand on the last edition, with the edits alone, and return its number."""
        chain, deals = self.replay(False)
        self.stand_on(chain, deals, [call for call in self._calls if call[0] == "edit"])
        return self._base

    def __len__(self):
        return len(self._calls)

    def __eq__(self, other):
        return (
            isinstance(other, Hand) and self._base == other._base and self._calls == other._calls
            and self._shelf == other._shelf
        )

    def __str__(self):
        return f"hand on {self._base}, {len(self._calls)} calls"
