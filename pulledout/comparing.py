"""What two books have unlike: the words of their faults, and what can be done in them."""

from pulledout.engine import FAULT_WORDS, moves_to, steps_on
from pulledout.errors import LimitExceeded
from pulledout.faults import faults
from pulledout.limits import check_hands, check_limit
from pulledout.runs import Run


def unlike(book, other, *, limit=6000):
    """None, or the first word that one book alone shows, 0 or 1 for this one, and a shortest Run that shows it."""
    found = (faults(book, limit=limit), faults(other, limit=limit))
    for word in FAULT_WORDS:
        which = [number for number, shown in enumerate(found) if word in shown]
        if len(which) == 1:
            return word, which[0], found[which[0]][word]
    return None


def told_apart(book, other, *, hands=1, limit=6000):
    """A shortest Run whose last move, and no other one, tells the two books apart, or None."""
    check_hands(hands)
    check_limit(limit)
    books = (book, other)
    first = (book.engine.at_first, other.engine.at_first)
    origins = {first: None}
    level = [first]
    while len(level) > 0:
        for states in level:
            move = _telling_move(books, states, hands)
            if move is not None:
                told = [*moves_to(origins, states), move]
                return Run(*told)
        level = _next_level(books, level, origins, hands, limit)
    return None


def _telling_move(books, states, hands):
    """A move that is possible in one state alone, or not the same fault in both; None if there is none."""
    told = _words(books[0], states[0], hands)
    others = _words(books[1], states[1], hands)
    for move in [*told, *others]:
        if move not in told or move not in others or told[move] != others[move]:
            return move
    return None


def _words(book, state, hands):
    """A dict from each possible move to the word of the fault that it is, or None."""
    return {move: word for move, word, _ in steps_on(book.engine, state, hands)}


def _next_level(books, level, origins, hands, limit):
    """The new pairs of states behind the ones of a level, which have the same moves; they are put among the origins."""
    found = []
    for states in level:
        told = steps_on(books[0].engine, states[0], hands)
        behind_in_other = {move: behind for move, _, behind in steps_on(books[1].engine, states[1], hands)}
        for move, word, behind in told:
            both = (behind, behind_in_other[move])
            if word is None and both not in origins:
                origins[both] = (states, move)
                found.append(both)
        if len(origins) > limit:
            raise LimitExceeded(limit)
    return found
