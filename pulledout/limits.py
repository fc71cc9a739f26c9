"""The numbers that bound a search: how many hands come, how many states there may be."""

from pulledout.engine import MOST_HANDS
from pulledout.errors import InvalidNumber
from pulledout.names import is_integer

_HIGHEST_LIMIT = 100000


def check_hands(value):
    """Raise InvalidNumber for any value that is no number of hands."""
    if not is_integer(value, 0, MOST_HANDS):
        raise InvalidNumber(value)


def check_limit(value):
    """Raise InvalidNumber for any value that is no limit of states."""
    if not is_integer(value, 1, _HIGHEST_LIMIT):
        raise InvalidNumber(value)
