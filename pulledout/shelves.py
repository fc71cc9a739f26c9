"""Shelves: right books under names, with changes that can be taken back and trials."""

from pulledout.books import Book
from pulledout.errors import InvalidBook, LimitExceeded, NothingToUndo, UnknownName
from pulledout.faults import faults, require_right
from pulledout.limits import check_limit
from pulledout.names import is_name

_MOST_BOOKS = 8


class Shelf:
    """Right books under names; within a trial others, too."""

    def __init__(self, *, limit=6000):
        check_limit(limit)
        self._limit = limit
        self._kept = Kept()

    @property
    def limit(self):
        """The most states that the table of a book may have."""
        return self._limit

    @limit.setter
    def limit(self, value):
        self.bound(value)

    def bound(self, value):
        """Assign the limit."""
        check_limit(value)
        self._limit = value

    def put(self, name, book):
        """Keep a Book under the name, in the place of an earlier one."""
        books = self._kept.books
        if not is_name(name):
            raise UnknownName(name)
        if not isinstance(book, Book):
            raise InvalidBook("shelf", name)
        if name not in books and len(books) == _MOST_BOOKS:
            raise LimitExceeded(_MOST_BOOKS)
        if self._kept.innermost is None:
            require_right(book, limit=self._limit)
        self._change_to({**books, name: book})

    def drop(self, name):
        """Take away the book under the name."""
        self._check_kept(name)
        books = self._kept.books
        self._change_to({other: books[other] for other in books if other != name})

    def __setitem__(self, at, worth):
        self.put(at, worth)

    def __getitem__(self, at):
        self._check_kept(at)
        return self._kept.books[at]

    def __iter__(self):
        return iter(self._kept.books)

    def __contains__(self, value):
        return is_name(value) and value in self._kept.books

    def __len__(self):
        return len(self._kept.books)

    def names(self):
        """The ascending list of the names."""
        return sorted(self._kept.books)

    def words(self, name):
        """The list of the words of the faults of the book under the name."""
        self._check_kept(name)
        return list(faults(self._kept.books[name], limit=self._limit))

    def undo(self):
        """Take back the last put or drop."""
        past = self._kept.past
        if past is None:
            raise NothingToUndo("undo")
        self._kept.books = past.books
        self._kept.past = past.past

    def changes(self):
        """How many changes can be taken back."""
        past = self._kept.past
        return 0 if past is None else past.number

    def trial(self):
        """A context that gives the shelf; behind it the shelf is as ahead of it, or as at the last accept within it."""
        return Trial(self, self._kept)

    def accept(self):
        """Let what is kept now stay behind the innermost trial."""
        innermost = self._kept.innermost
        if innermost is None:
            raise NothingToUndo("accept")
        books = self._kept.books
        for name in self.names():
            require_right(books[name], limit=self._limit)
        innermost.leave_behind(books)

    def attempt(self, visitor):
        """What the function returns for the shelf within a trial."""
        with self.trial() as shelf:
            return visitor(shelf)

    def _check_kept(self, name):
        if name not in self:
            raise UnknownName(name)

    def _change_to(self, books):
        self._kept.past = Change(self._kept.books, self._kept.past)
        self._kept.books = books


class Change:
    """What was kept ahead of a change, and the change ahead of that one; it never changes itself."""

    def __init__(self, books, past):
        self.books = books
        self.past = past
        self.number = 1 if past is None else past.number + 1


class Kept:
    """The books of a shelf, the last change that can be taken back, and the innermost trial.

    A dict of books never changes, each change takes a new one: so it can be gone back to.
    """

    def __init__(self):
        self.books = {}
        self.past = None
        self.innermost = None


class Trial:
    """What a shelf was when a trial began, and what it will be behind it."""

    def __init__(self, shelf, kept):
        self._shelf = shelf
        self._kept = kept
        self._around = None
        self._ahead = None
        self._books = None
        self._past = None

    def __enter__(self):
        self._around = self._kept.innermost
        # Taken back as a change, this one goes to where the trial began.
        self._ahead = Change(self._kept.books, self._kept.past)
        self._books = self._kept.books
        self._past = self._kept.past
        self._kept.innermost = self
        return self._shelf

    def __exit__(self, kind, value, trace):
        self._kept.books = self._books
        self._kept.past = self._past
        self._kept.innermost = self._around

    def leave_behind(self, books):
        """Let these books stay behind the trial, as one change."""
        self._books = books
        self._past = self._ahead
