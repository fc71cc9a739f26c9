"""A bench: a book on which moves are made and taken back."""

from pulledout.engine import (MOST_HANDS, fault_word, is_freed_at, is_kept_at, is_stuck_at, possible_moves,
                              state_behind)
from pulledout.errors import Faulty, InvalidMove, InvalidNumber, NothingToUndo
from pulledout.moves import is_move
from pulledout.names import is_integer
from pulledout.runs import Run


class Bench:
    """The moves made so far from the beginning of a book, and where they have led."""

    def __init__(self, book, *, most=8):
        if not is_integer(most, 0, MOST_HANDS):
            raise InvalidNumber(most)
        self._book = book
        self._most = most
        self._made = []
        # The states ahead of each move made, and behind the last one.
        self._passed = [book.engine.at_first]
        self._held = None

    def __call__(self, move):
        engine = self._book.engine
        state = self._passed[-1]
        if not is_move(move) or move not in possible_moves(engine, state, self._most):
            raise InvalidMove(move)
        word = fault_word(engine, state, move)
        if word is not None:
            raise Faulty(word, move)
        behind = state_behind(engine, state, move)
        self._made.append(move)
        self._passed.append(behind)
        return behind

    @property
    def book(self):
        """The book."""
        return self._book

    @property
    def state(self):
        """The state behind the moves made."""
        return self._passed[-1]

    @property
    def deeds(self):
        """The Run of the moves made."""
        return Run.of(self._made)

    @property
    def freed(self):
        """Whether the record is freed."""
        return is_freed_at(self._book.engine, self._passed[-1])

    @property
    def kept(self):
        """Whether the record is kept for good."""
        return is_kept_at(self._book.engine, self._passed[-1])

    @property
    def most(self):
        """The most hands that are let come."""
        return self._most

    @most.setter
    def most(self, value):
        self.allow(value)

    def allow(self, most):
        """Let at most so many hands come in all."""
        came = self._passed[-1][0]
        if not is_integer(most, came, MOST_HANDS):
            raise InvalidNumber(most)
        self._most = most

    def moves(self):
        """The list of the possible moves, faults too."""
        return possible_moves(self._book.engine, self._passed[-1], self._most)

    def faults(self):
        """The list of the tuples (move, word) of the possible moves that are faults."""
        engine = self._book.engine
        state = self._passed[-1]
        words = [(move, fault_word(engine, state, move)) for move in self.moves()]
        return [(move, word) for move, word in words if word is not None]

    def stuck(self):
        """Whether the state is stuck."""
        return is_stuck_at(self._book.engine, self._passed[-1])

    def __len__(self):
        return len(self._made)

    def back(self):
        """Take the last move back."""
        if len(self._made) == 0:
            raise NothingToUndo("back")
        self._made.pop()
        self._passed.pop()

    def copy(self):
        """A bench with the same moves made, which goes on by itself."""
        twin = Bench(self._book, most=self._most)
        twin._made = list(self._made)
        twin._passed = list(self._passed)
        return twin

    def trial(self):
        """A context that gives the bench, and behind which all is as ahead of it."""
        return BenchTrial(self)

    def attempt(self, visitor):
        """What the function returns for the bench; behind it all is as ahead of it."""
        with self.trial() as bench:
            return visitor(bench)


class Held:
    """What a bench was when a trial began, and what is held for the trials around that one."""

    def __init__(self, around, made, passed, most):
        self.around = around
        self.made = made
        self.passed = passed
        self.most_then = most


class BenchTrial:
    """The context in which a bench is tried."""

    def __init__(self, bench):
        self._bench = bench

    def __enter__(self):
        bench = self._bench
        bench._held = Held(bench._held, bench._made, bench._passed, bench._most)
        # What is held stays as it is: the trial goes on with lists of its own.
        bench._made = list(bench._made)
        bench._passed = list(bench._passed)
        return bench

    def __exit__(self, kind, value, trace):
        self._bench._made = self._bench._held.made
        self._bench._passed = self._bench._held.passed
        self._bench._most = self._bench._held.most_then
        self._bench._held = self._bench._held.around
