"""The faults of a book for any number of hands ([3], [10], [11])."""

from pulledout.engine import FAULT_WORDS, is_kept_at, is_stuck_at
from pulledout.errors import InvalidState, NotRight, UnknownName
from pulledout.moves import is_state
from pulledout.runs import Run, fault_at_end, is_run, play
from pulledout.tables import Table
from pulledout.ways import Search

# By [3](a) one hand tells whether a book is right, and two tell each fault and its shortest run.
_ENOUGH_FOR_RIGHT = 1
_ENOUGH_FOR_ALL = 2


def faults(book, *, limit=6000):
    """A dict from each word of a fault that a run shows to a shortest such Run."""
    return Table(book, hands=_ENOUGH_FOR_ALL, limit=limit).faults()


def is_right(book, *, limit=6000):
    """Whether no run with any number of hands has a fault."""
    return len(Table(book, hands=_ENOUGH_FOR_RIGHT, limit=limit).faults()) == 0


def fewest(book, word, *, limit=6000):
    """The fewest hands in a run that shows the word, and a shortest such Run; None if there is none."""
    _check_word(word)
    for hands in range(_ENOUGH_FOR_ALL + 1):
        found = Table(book, hands=hands, limit=limit).faults()
        if word in found:
            return hands, found[word]
    return None


def is_shown(book, word, value):
    """Whether any value is a Run that shows the word."""
    _check_word(word)
    if word in ("touched", "used"):
        return fault_at_end(book, value) == word
    if not is_run(book, value):
        return False
    state = play(book, value)
    return is_stuck_at(book.engine, state) if word == "stuck" else is_kept_at(book.engine, state)


def require_right(book, *, limit=6000):
    """Raise NotRight with a word and a Run of one hand at most that shows it, if the book is not right."""
    found = Table(book, hands=_ENOUGH_FOR_RIGHT, limit=limit).faults()
    for word in FAULT_WORDS:
        if word in found:
            raise NotRight(word, found[word])


def meetings(book, *, limit=6000):
    """A dict from each place of a hand to the rising tuple of the numbers of done steps beside which one can be."""
    places = range(book.hands.size)
    beside = {place: {} for place in places}
    for _, hands, _, done, _ in Table(book, hands=_ENOUGH_FOR_ALL, limit=limit).states():
        for place in hands:
            beside[place][done] = True
    return {place: tuple(sorted(beside[place])) for place in places}


def way_out(book, state):
    """A shortest Run of further moves, none come or a fault, to where all is at its end; None if there is none."""
    if not is_state(book, state):
        raise InvalidState(state)
    way = Search(book.engine, state).way()
    return None if way is None else Run(*way)


def _check_word(word):
    if not isinstance(word, str) or word not in FAULT_WORDS:
        raise UnknownName(word)
