"""Closed lists: papers that show that a book is right for any number of hands ([3](d), [11])."""

from pulledout.engine import is_kept_at, is_stuck_at, steps_on
from pulledout.moves import is_state
from pulledout.tables import Table

_MOST = 1


def closed_list(book, *, limit=6000):
    """A closed list of the states of the table with one hand, or None if the book is not right."""
    table = Table(book, hands=_MOST, limit=limit)
    return table.states() if len(table.faults()) == 0 else None


def is_closed(book, value):
    """Whether any value is a closed list of the book."""
    if not isinstance(value, (list, tuple)):
        return False
    if not all([is_state(book, state) and state[0] <= _MOST for state in value]):
        return False
    members = {state: True for state in value}
    return book.engine.at_first in members and all([_stays_within(book.engine, state, members) for state in value])


def _stays_within(engine, state, members):
    if is_stuck_at(engine, state) or is_kept_at(engine, state):
        return False
    return all([word is None and behind in members for _, word, behind in steps_on(engine, state, _MOST)])
