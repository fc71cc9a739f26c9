"""Runs: moves one after the other, from the beginning ([11])."""

from pulledout.engine import MOST_HANDS, fault_word, possible_moves, state_behind
from pulledout.errors import Faulty, InvalidMove, InvalidNumber
from pulledout.moves import is_move
from pulledout.names import is_integer


class Run:
    """Moves in their order; whether a book can make them is not said by it."""

    def __init__(self, *moves):
        for move in moves:
            if not is_move(move):
                raise InvalidMove(move)
        self._moves = moves

    @staticmethod
    def of(moves):
        """The run of the moves that are gone through."""
        return Run(*moves)

    @property
    def hands(self):
        """How many hands come in it."""
        return len([move for move in self._moves if move[0] == "come"])

    def listed(self):
        """The list of the moves."""
        return list(self._moves)

    def __len__(self):
        return len(self._moves)

    def __getitem__(self, at):
        if not is_integer(at, 0, len(self._moves) - 1):
            raise InvalidNumber(at)
        return self._moves[at]

    def __iter__(self):
        return iter(self._moves)

    def __contains__(self, value):
        return is_move(value) and value in self._moves

    def __add__(self, other):
        told = [*self._moves, *_moves_of(other)]
        return Run(*told)

    def __radd__(self, other):
        told = [*_moves_of(other), *self._moves]
        return Run(*told)

    def __iadd__(self, other):
        told = [*self._moves, *_moves_of(other)]
        return Run(*told)

    def __eq__(self, other):
        return isinstance(other, Run) and self._moves == other._moves


def play(book, run):
    """The state behind the run."""
    made, state, word = _walked(book, run)
    if made == len(run):
        return state
    if word is None:
        raise InvalidMove(run[made])
    raise Faulty(word, run[made])


def is_run(book, value):
    """Whether any value is a Run without a fault."""
    return isinstance(value, Run) and _walked(book, value)[0] == len(value)


def fault_at_end(book, value):
    """The word of the fault that the last move of any value is, if this is a Run and no other move is one."""
    if not isinstance(value, Run):
        return None
    made, _, word = _walked(book, value)
    return word if made == len(value) - 1 else None


def _walked(book, run):
    """How many moves can be made without a fault, the state behind them, and the fault that the next one is."""
    state = book.engine.at_first
    for made, move in enumerate(run):
        if move not in possible_moves(book.engine, state, MOST_HANDS):
            return made, state, None
        word = fault_word(book.engine, state, move)
        if word is not None:
            return made, state, word
        state = state_behind(book.engine, state, move)
    return len(run), state, None


def _moves_of(other):
    if not isinstance(other, (Run, tuple, list)):
        raise InvalidMove(other)
    return list(other)
