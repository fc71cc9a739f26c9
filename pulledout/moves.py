"""States of a book, the moves between them, and which of them are faults ([8] to [10])."""

from pulledout.engine import (MOST_HANDS, count_at, fault_word, is_freed_at, is_kept_at, is_stuck_at, locks_at,
                              possible_moves, state_behind)
from pulledout.errors import Faulty, InvalidMove, InvalidNumber, InvalidState
from pulledout.names import is_integer, is_name

_HIGHEST_PLACE = 13


def is_move(value):
    """Whether any value is a move by its form."""
    if not isinstance(value, tuple) or len(value) not in (1, 2) or not isinstance(value[0], str):
        return False
    if len(value) == 1:
        return value[0] in ("come", "step")
    kind, target = value
    if kind == "go":
        return is_integer(target, 0, _HIGHEST_PLACE)
    return kind in ("begin", "run") and is_name(target)


def is_state(book, value):
    """Whether any value is a state of the book."""
    if not isinstance(value, tuple) or len(value) != 5:
        return False
    came, hands, works, done, leaked = value
    if not is_integer(came, 0, MOST_HANDS) or not is_integer(done, 0, len(book.puller)):
        return False
    if not _are_hands(book, hands, came) or not _are_works(book, works):
        return False
    if not isinstance(leaked, bool) or (leaked and len(hands) == came):
        return False
    return locks_at(book.engine, value) <= 1


def first_state(book):
    """The state in which nothing has happened."""
    return book.engine.at_first


def moves(book, state, *, hands=8):
    """The list of the possible moves, faults too, with at most so many hands in all."""
    _check_state(book, state)
    if not is_integer(hands, 0, MOST_HANDS):
        raise InvalidNumber(hands)
    return possible_moves(book.engine, state, hands)


def fault_of(book, state, move):
    """The word of the fault that the possible move is, or None."""
    _check_state(book, state)
    _check_move(book, state, move)
    return fault_word(book.engine, state, move)


def after(book, state, move):
    """The state behind the possible move."""
    word = fault_of(book, state, move)
    if word is not None:
        raise Faulty(word, move)
    return state_behind(book.engine, state, move)


def is_freed(book, state):
    """Whether the record is freed."""
    _check_state(book, state)
    return is_freed_at(book.engine, state)


def is_stuck(book, state):
    """Whether the puller is stuck."""
    _check_state(book, state)
    return is_stuck_at(book.engine, state)


def is_kept(book, state):
    """Whether the record is kept for good."""
    _check_state(book, state)
    return is_kept_at(book.engine, state)


def count(book, state):
    """The record's count, all hands that leaked counted as one."""
    _check_state(book, state)
    return count_at(book.engine, state)


def _are_hands(book, value, came):
    if not isinstance(value, tuple) or len(value) > came:
        return False
    if not all([is_integer(place, 0, book.hands.size - 1) for place in value]):
        return False
    return list(value) == sorted(value)


def _are_works(book, value):
    names = book.works()
    if not isinstance(value, tuple) or len(value) != len(names):
        return False
    return all([_is_work(book[name], work) for name, work in zip(names, value)])


def _is_work(row, value):
    if not isinstance(value, tuple) or len(value) != 2:
        return False
    pending, place = value
    return isinstance(pending, bool) and (place is None or is_integer(place, 0, row.size - 1))


def _check_state(book, state):
    if not is_state(book, state):
        raise InvalidState(state)


def _check_move(book, state, move):
    if not is_move(move) or move not in possible_moves(book.engine, state, MOST_HANDS):
        raise InvalidMove(move)
