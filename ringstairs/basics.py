"""What all parts of the package ask of integers."""

from ringstairs.errors import InvalidNumber, TooMany

BOUND = 10 ** 60
DIGITS = 60
SHORT_BOUND = 10 ** 50
SHORT_DIGITS = 50


def is_integer(value):
    """Whether the value is an integer of at most sixty digits."""
    return isinstance(value, int) and not isinstance(value, bool) and -BOUND < value < BOUND


def is_between(value, low, high):
    """Whether the value is an integer from low to high."""
    return is_integer(value) and low <= value <= high


def is_short(value):
    """Whether the value is an integer of at most fifty digits."""
    return is_between(value, 1 - SHORT_BOUND, SHORT_BOUND - 1)


def are_short(numbers):
    """Whether all members of a list are integers of at most fifty digits."""
    return all([is_short(number) for number in numbers])


def is_pair(value):
    """Whether the value is a tuple of two members."""
    return isinstance(value, tuple) and len(value) == 2


def is_row(value, many, low, high):
    """Whether the value is a tuple of so many integers from low to high."""
    if not isinstance(value, tuple) or len(value) != many:
        return False
    return all([is_between(number, low, high) for number in value])


def is_long_row(value, many):
    """Whether the value is a tuple of so many integers of at most sixty digits."""
    return is_row(value, many, 1 - BOUND, BOUND - 1)


def check_integer(value):
    """Refuse what is no integer of at most sixty digits."""
    if not is_integer(value):
        raise InvalidNumber(value)


def check_between(value, low, high):
    """Refuse what is no integer from low to high."""
    if not is_between(value, low, high):
        raise InvalidNumber(value)


def check_from(value, low):
    """Refuse what is no integer of at most sixty digits from low on."""
    check_between(value, low, BOUND - 1)


def check_up_to(value, high):
    """Refuse what is no integer of at most sixty digits up to high."""
    check_between(value, 1 - BOUND, high)


def check_digits(numbers):
    """Refuse to return integers of more than sixty digits inside another value."""
    if not all([is_integer(number) for number in numbers]):
        raise TooMany(DIGITS)
