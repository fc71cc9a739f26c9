"""A console: commands and answers in words ([15])."""

from pulledout.comparing import unlike
from pulledout.errors import InvalidCommand
from pulledout.faults import faults, fewest
from pulledout.plain import Plain
from pulledout.shelves import Shelf
from pulledout.texts import read_book, write_book

# By first word, the least and the greatest number of words; None for as many as one likes.
_MANY_WORDS = {"keep": (3, None), "drop": (2, 2), "undo": (1, 1), "names": (1, 1), "show": (2, 2), "ask": (2, None),
               "fewest": (3, None), "unlike": (3, 3), "plain": (3, None)}
_BETWEEN_ROWS = " / "
_DONE = "ok"
_NONE = "-"
_RIGHT = "right"


class Console:
    """A shelf that is asked and changed by commands."""

    def __init__(self):
        self._shelf = Shelf()

    @property
    def shelf(self):
        """The shelf."""
        return self._shelf

    def told(self, command):
        """The answer of a command."""
        word, *rest = _words_of(command)
        if word in ("keep", "drop", "undo"):
            self._change(word, rest)
            return _DONE
        if word in ("ask", "plain"):
            return " ".join(self._faults(word, rest)) or _RIGHT
        return self._told_of_shelf(word, rest) or _NONE

    def _change(self, word, rest):
        if word == "keep":
            book = _book_of(rest[1:])
            self._shelf.put(rest[0], book)
        elif word == "drop":
            self._shelf.drop(rest[0])
        else:
            self._shelf.undo()

    def _faults(self, word, rest):
        if word == "plain":
            opens, asks, *pulls = rest
            return Plain(opens, asks, *pulls).faults()
        return list(faults(_book_of(rest), limit=self._shelf.limit))

    def _told_of_shelf(self, word, rest):
        """The answer, empty if there is nothing to tell."""
        if word == "names":
            return " ".join(self._shelf.names())
        if word == "show":
            return _text_of(self._shelf[rest[0]])
        if word == "fewest":
            return self._fewest(rest[0], _book_of(rest[1:]))
        return self._unlike(self._shelf[rest[0]], self._shelf[rest[1]])

    def _fewest(self, word, book):
        found = fewest(book, word, limit=self._shelf.limit)
        return "" if found is None else f"{found[0]} {len(found[1])}"

    def _unlike(self, book, other):
        found = unlike(book, other, limit=self._shelf.limit)
        return "" if found is None else found[0]


def _words_of(command):
    """The list of the words of a command that has as many as it should have."""
    if not isinstance(command, str) or "\n" in command or "\t" in command:
        raise InvalidCommand(None)
    words = command.split(" ")
    if "" in words:
        raise InvalidCommand(None)
    if words[0] not in _MANY_WORDS:
        raise InvalidCommand(words[0])
    least, most = _MANY_WORDS[words[0]]
    if len(words) < least or most is not None and len(words) > most:
        raise InvalidCommand(words[0])
    return words


def _book_of(words):
    return read_book(" ".join(words).replace(_BETWEEN_ROWS, "\n"))


def _text_of(book):
    return write_book(book).replace("\n", _BETWEEN_ROWS)
