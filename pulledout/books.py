"""Books: what the hands, the works and the puller of a device do ([7])."""

from pulledout.engine import Engine
from pulledout.errors import InvalidBook, InvalidItem, InvalidStep, UnknownName
from pulledout.names import is_name
from pulledout.rows import HandRow, PullRow, WorkRow

_MOST_WORKS = 2
_MOST_MARKS = 3

_NAMING_WORKS = ("start", "bar", "forget", "idle")
_NAMING_MARKS = ("ask", "mark")


class Book:
    """A hand's row, the rows of the works and the puller's row."""

    def __init__(self, hands, works=None, *, puller):
        self._hands = _hand_row(hands)
        self._works = _work_rows(works)
        self._puller = _pull_row(puller)
        _check_works(self._hands, self._works, self._puller)
        self._marks = _marks_of(self._hands, self._works, self._puller)
        if len(self._marks) > _MOST_MARKS:
            raise InvalidBook("marks", None)
        self.engine = Engine(self._hands, self._works, self._puller)

    @property
    def hands(self):
        """The hand's row."""
        return self._hands

    @property
    def puller(self):
        """The puller's row."""
        return self._puller

    def works(self):
        """The ascending list of the names of the works."""
        return list(self._works)

    def marks(self):
        """The ascending list of the marks that are named."""
        return list(self._marks)

    def __getitem__(self, at):
        if at not in self:
            raise UnknownName(at)
        return self._works[at]

    def __iter__(self):
        raise TypeError("a book is not iterated over")

    def __contains__(self, value):
        return is_name(value) and value in self._works

    def __len__(self):
        return len(self._works)

    def __eq__(self, other):
        if not isinstance(other, Book):
            return False
        if self._hands != other._hands or self._puller != other._puller:
            return False
        return self._works == other._works

    def changed(self, *, hands=None, works=None, puller=None):
        """The book with these in the places of its own; what is None stays."""
        if hands is None:
            hands = self._hands
        if works is None:
            works = self._works
        if puller is None:
            puller = self._puller
        return Book(hands, works, puller=puller)


def _hand_row(hands):
    if isinstance(hands, HandRow):
        return hands
    if not isinstance(hands, tuple):
        raise InvalidBook("hands", None)
    try:
        return HandRow(*hands)
    except InvalidItem as e:
        raise InvalidBook("hands", None) from e


def _work_rows(works):
    """The dict of the rows, its names ascending."""
    if works is None:
        return {}
    if not isinstance(works, dict) or len(works) > _MOST_WORKS:
        raise InvalidBook("works", None)
    if not all([is_name(name) for name in works]):
        raise InvalidBook("works", None)
    return {name: _work_row(name, works[name]) for name in sorted(works)}


def _work_row(name, row):
    if isinstance(row, WorkRow):
        return row
    if not isinstance(row, tuple):
        raise InvalidBook("works", name)
    try:
        return WorkRow(*row)
    except InvalidItem as e:
        raise InvalidBook("works", name) from e


def _pull_row(puller):
    if isinstance(puller, PullRow):
        return puller
    if not isinstance(puller, tuple):
        raise InvalidBook("puller", None)
    try:
        return PullRow(*puller)
    except InvalidStep as e:
        raise InvalidBook("puller", None) from e


def _named(parts, words):
    """The names behind such words, in the order in which they stand there."""
    return [part[1] for part in parts if part[0] in words]


def _check_works(hands, works, puller):
    """Raise InvalidBook with the first work that is named and not there."""
    _check_named("hands", sorted(_named(hands.layout.placed, _NAMING_WORKS)), works)
    for row in list(works.values()):
        _check_named("works", sorted(_named(row.layout.placed, _NAMING_WORKS)), works)
    _check_named("puller", _named(puller.parts, _NAMING_WORKS), works)


def _check_named(part, names, works):
    for name in names:
        if name not in works:
            raise InvalidBook(part, name)


def _marks_of(hands, works, puller):
    placed = [*hands.layout.placed, *puller.parts]
    for row in list(works.values()):
        placed = [*placed, *row.layout.placed]
    return sorted({name for name in _named(placed, _NAMING_MARKS)})
