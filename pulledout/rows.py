"""The rows of hands, works and the puller ([4] to [6])."""

from pulledout.errors import InvalidItem, InvalidNumber, InvalidStep
from pulledout.items import is_item, is_step
from pulledout.layouts import Layout, check_items, check_places, check_steps, locked_behind, opening_of
from pulledout.names import is_integer

_NOT_BEHIND_OPENING = ("look", "hold", "try")
_NOT_IN_WORKS = ("look", "hold", "try", "let")


class HandRow:
    """The row of items that each hand does."""

    def __init__(self, *items):
        check_items(items)
        self._opening = opening_of(items)
        self.layout = Layout(items)
        check_places(self.layout, self._opening, _NOT_BEHIND_OPENING)
        self._parts = items

    @staticmethod
    def of(items):
        """The row of a tuple or a list of items."""
        if not isinstance(items, (tuple, list)):
            raise InvalidItem(None)
        return HandRow(*items)

    @property
    def parts(self):
        """The tuple of the items."""
        return self._parts

    @property
    def size(self):
        """The number of places, which is the end."""
        return self.layout.end

    @property
    def opening(self):
        """The number of items of the opening."""
        return self._opening

    def __len__(self):
        return len(self._parts)

    def __getitem__(self, at):
        return self._parts[_checked(at, len(self._parts) - 1)]

    def __iter__(self):
        return iter(self._parts)

    def __contains__(self, value):
        return is_item(value) and value in self._parts

    def __eq__(self, other):
        return isinstance(other, HandRow) and self._parts == other._parts

    def item(self, place):
        """The item that stands behind the place."""
        return self.layout.placed[_checked_place(self.layout, place)]

    def nexts(self, place):
        """The tuple of the next places of the item there."""
        return self.layout.leads[_checked_place(self.layout, place)]

    def holds(self, place):
        """Whether a hand that stands there holds."""
        return _standing(self.layout, place)[0]

    def is_under(self, place):
        """Whether a hand that stands there is under way."""
        return _standing(self.layout, place)[1]

    def is_locked(self, place):
        """Whether a hand that stands there has the lock."""
        return _standing(self.layout, place)[2]

    def places_of(self, word):
        """The rising list of the places whose item begins with the word."""
        return _places_of(self.layout, word)


class WorkRow:
    """The row of items that a work does."""

    def __init__(self, *items):
        check_items(items)
        self.layout = Layout(items)
        check_places(self.layout, 0, _NOT_IN_WORKS)
        self._parts = items

    @staticmethod
    def of(items):
        """The row of a tuple or a list of items."""
        if not isinstance(items, (tuple, list)):
            raise InvalidItem(None)
        return WorkRow(*items)

    @property
    def parts(self):
        """The tuple of the items."""
        return self._parts

    @property
    def size(self):
        """The number of places, which is the end."""
        return self.layout.end

    def __len__(self):
        return len(self._parts)

    def __getitem__(self, at):
        return self._parts[_checked(at, len(self._parts) - 1)]

    def __iter__(self):
        return iter(self._parts)

    def __contains__(self, value):
        return is_item(value) and value in self._parts

    def __eq__(self, other):
        return isinstance(other, WorkRow) and self._parts == other._parts

    def item(self, place):
        """The item that stands behind the place."""
        return self.layout.placed[_checked_place(self.layout, place)]

    def nexts(self, place):
        """The tuple of the next places of the item there."""
        return self.layout.leads[_checked_place(self.layout, place)]

    def holds(self, place):
        """Whether a work that runs there holds; none does."""
        return _standing(self.layout, place)[0]

    def is_under(self, place):
        """Whether a work that runs there is under way."""
        return _standing(self.layout, place)[1]

    def is_locked(self, place):
        """Whether a work that runs there has the lock."""
        return _standing(self.layout, place)[2]

    def places_of(self, word):
        """The rising list of the places whose item begins with the word."""
        return _places_of(self.layout, word)


class PullRow:
    """The row of steps that the puller does."""

    def __init__(self, *steps):
        check_steps(steps)
        self._parts = steps
        self._locked = tuple(locked_behind(steps))

    @staticmethod
    def of(steps):
        """The row of a tuple or a list of steps."""
        if not isinstance(steps, (tuple, list)):
            raise InvalidStep(None)
        return PullRow(*steps)

    @property
    def parts(self):
        """The tuple of the steps."""
        return self._parts

    def __len__(self):
        return len(self._parts)

    def __getitem__(self, at):
        return self._parts[_checked(at, len(self._parts) - 1)]

    def __iter__(self):
        return iter(self._parts)

    def __contains__(self, value):
        return is_step(value) and value in self._parts

    def __eq__(self, other):
        return isinstance(other, PullRow) and self._parts == other._parts

    def first(self, *step):
        """The index of the step, its parts passed one by one, or None if it is not there."""
        return self._parts.index(step) if is_step(step) and step in self._parts else None

    def has_lock(self, done):
        """Whether the puller has the lock behind so many steps."""
        return self._locked[_checked(done, len(self._parts))]

    def is_behind(self, done, *step):
        """Whether the step, its parts passed one by one, is one of so many first ones."""
        many = _checked(done, len(self._parts))
        return is_step(step) and step in self._parts[:many]


def _checked(value, highest):
    if not is_integer(value, 0, highest):
        raise InvalidNumber(value)
    return value


def _checked_place(layout, place):
    return _checked(place, layout.end - 1)


def _standing(layout, place):
    return layout.standings[_checked_place(layout, place)]


def _places_of(layout, word):
    return [place for place, item in enumerate(layout.placed) if item[0] == word]
