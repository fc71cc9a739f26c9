"""A bench: a book on which moves are made and taken back."""

from pulledout.engine import (MOST_HANDS, fault_word, is_freed_at, is_kept_at, is_stuck_at, possible_moves,
                              state_behind)
from pulledout.errors import Faulty, InvalidMove, InvalidNumber, NothingToUndo
from pulledout.moves import is_move
from pulledout.names import is_integer
from pulledout.runs import Run


class Bench:
    """The moves made so far from the beginning of a book, and where they have led."""

    def __init__(self, book, *, most=8):
        if not is_integer(most, 0, MOST_HANDS):
            raise InvalidNumber(most)
        self._book = book
        self._past = Past(self, book.engine.at_first, most)

    def __call__(self, move):
        engine = self._book.engine
        state = self._past.passed[-1]
        if not is_move(move) or move not in self.moves():
            raise InvalidMove(move)
        word = fault_word(engine, state, move)
        if word is not None:
            raise Faulty(word, move)
        behind = state_behind(engine, state, move)
        self._past.made.append(move)
        self._past.passed.append(behind)
        return behind

    @property
    def book(self):
        """The book."""
        return self._book

    @property
    def state(self):
        """The state behind the moves made."""
        return self._past.passed[-1]

    @property
    def deeds(self):
        """The Run of the moves made."""
        made = self._past.made
        return Run(*made)

    @property
    def freed(self):
        """Whether the record is freed."""
        return is_freed_at(self._book.engine, self._past.passed[-1])

    @property
    def kept(self):
        """Whether the record is kept for good."""
        return is_kept_at(self._book.engine, self._past.passed[-1])

    @property
    def most(self):
        """The most hands that are let come."""
        return self._past.let_come

    @most.setter
    def most(self, value):
        self.allow(value)

    def allow(self, most):
        """Let at most so many hands come in all."""
        past = self._past
        came = past.passed[-1][0]
        if not is_integer(most, came, MOST_HANDS):
            raise InvalidNumber(most)
        past.let_come = most

    def moves(self):
        """The list of the possible moves, faults too."""
        return possible_moves(self._book.engine, self._past.passed[-1], self._past.let_come)

    def faults(self):
        """The list of the tuples (move, word) of the possible moves that are faults."""
        state = self._past.passed[-1]
        words = [(move, fault_word(self._book.engine, state, move)) for move in self.moves()]
        return [(move, word) for move, word in words if word is not None]

    def stuck(self):
        """Whether the state is stuck."""
        return is_stuck_at(self._book.engine, self._past.passed[-1])

    def __len__(self):
        return len(self._past.made)

    def back(self):
        """Take the last move back."""
        if len(self._past.made) == 0:
            raise NothingToUndo("back")
        self._past.made.pop()
        self._past.passed.pop()

    def copy(self):
        """A bench with the same moves made, which goes on by itself."""
        twin = Bench(self._book, most=self._past.let_come)
        past = twin._past
        past.made = list(self._past.made)
        past.passed = list(self._past.passed)
        return twin

    def trial(self):
        """A context that gives the bench, and behind which all is as ahead of it."""
        return self._past

    def attempt(self, visitor):
        """What the function returns for the bench; behind it all is as ahead of it."""
        with self.trial() as bench:
            return visitor(bench)


class Past:
    """What has been done on a bench; it is a context, too: behind it, it is what it was ahead of it."""

    def __init__(self, bench, first, most):
        self._bench = bench
        self.made = []
        # The states ahead of each move made, and behind the last one.
        self.passed = [first]
        self.let_come = most
        self._held = None

    def __enter__(self):
        self._held = Held(self._held, self.made, self.passed, self.let_come)
        # What is held stays as it is: the trial goes on with lists of its own.
        self.made = list(self.made)
        self.passed = list(self.passed)
        return self._bench

    def __exit__(self, kind, value, trace):
        self.made = self._held.made
        self.passed = self._held.passed
        self.let_come = self._held.let_come
        self._held = self._held.around


class Held:
    """What the past of a bench was when a trial began, and what is held for the trials around that one."""

    def __init__(self, around, made, passed, let_come):
        self.around = around
        self.made = made
        self.passed = passed
        self.let_come = let_come
