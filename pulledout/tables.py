"""Tables: all states to which the runs of a book without a fault lead ([8] to [11])."""

from pulledout.engine import FAULT_WORDS, is_kept_at, is_stuck_at, moves_to, steps_on
from pulledout.errors import InvalidState, LimitExceeded
from pulledout.limits import check_hands, check_limit
from pulledout.moves import is_state
from pulledout.runs import Run


class Table:
    """The states to which runs without a fault lead in which at most so many hands come."""

    def __init__(self, book, *, hands=2, limit=6000):
        check_hands(hands)
        check_limit(limit)
        self._book = book
        self._most = hands
        # By state, shorter runs ahead: the length of a shortest run, and the last state and move of one.
        self._lengths = {}
        self._origins = {}
        # By word: the state that shows it first, and the move that is the fault, or None.
        self._shown = {}
        self._explore(limit)

    def __len__(self):
        return len(self._lengths)

    def __contains__(self, value):
        return is_state(self._book, value) and value in self._lengths

    def __getitem__(self, at):
        if at not in self:
            raise InvalidState(at)
        return self._lengths[at]

    def __iter__(self):
        raise TypeError("a table is not iterated over")

    def states(self):
        """The list of the states, those with shorter runs ahead."""
        return list(self._lengths)

    def run_to(self, state):
        """A shortest Run to the state."""
        if state not in self:
            raise InvalidState(state)
        moves = moves_to(self._origins, state)
        return Run(*moves)

    def links(self, state):
        """The list of the tuples (move, state behind it) of the possible moves that are no faults."""
        if state not in self:
            raise InvalidState(state)
        told = steps_on(self._book.engine, state, self._most)
        return [(move, behind) for move, word, behind in told if word is None]

    def faults(self):
        """A dict from each word of a fault that one of the runs shows to a shortest such Run."""
        return {word: self._run_that_shows(word) for word in FAULT_WORDS if word in self._shown}

    def _explore(self, limit):
        level = {self._book.engine.at_first: None}
        length = 0
        while len(level) > 0:
            for state in level:
                self._lengths[state] = length
                self._origins[state] = level[state]
            level = self._next_level(level, limit)
            length = length + 1

    def _next_level(self, level, limit):
        """From each new state behind the ones of a level to where it comes from; the faults there are kept."""
        found = {}
        for state in level:
            self._look_at(state)
            for move, word, behind in steps_on(self._book.engine, state, self._most):
                if word is not None:
                    self._shown.setdefault(word, (state, move))
                elif behind not in self._lengths and behind not in found:
                    found[behind] = (state, move)
            if len(self._lengths) + len(found) > limit:
                raise LimitExceeded(limit)
        return found

    def _look_at(self, state):
        if is_stuck_at(self._book.engine, state):
            self._shown.setdefault("stuck", (state, None))
        if is_kept_at(self._book.engine, state):
            self._shown.setdefault("kept", (state, None))

    def _run_that_shows(self, word):
        state, move = self._shown[word]
        told = moves_to(self._origins, state)
        if move is not None:
            told.append(move)
        return Run(*told)
