"""Names, and deals with few digits that can have one."""

from ringstairs.basics import are_short
from ringstairs.link.chains import combined, lies_dealt

LETTERS = "abcdefghijklmnopqrstuvwxyz"
SIGNS = "abcdefghijklmnopqrstuvwxyz0123456789"
MOST_SIGNS = 8


def is_name(value):
    """Whether the value is a name."""
    if not isinstance(value, str) or not 1 <= len(value) <= MOST_SIGNS:
        return False
    return value[0] in LETTERS and all([sign in SIGNS for sign in value])


def is_short_deal(chain, value):
    """Whether the value is a deal on what surely is a chain, with short integers, also when it is written."""
    if not lies_dealt(chain, value) or not are_short(list(value.values())):
        return False
    return are_short(list(written_deal(chain, value).values()))


def written_deal(chain, deal):
    """The written deal, with integers of any length."""
    return combined(chain, [(1, deal)])


def ordered(table):
    """A copy of a dict with ascending keys."""
    return {key: table[key] for key in sorted(table)}


def copied_deals(deals):
    """A copy of named deals, in order."""
    return {name: ordered(deals[name]) for name in sorted(deals)}
