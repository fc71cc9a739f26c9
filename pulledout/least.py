"""Least sets: of a puller's steps, and of options that mend a book ([3](f), [14])."""

from pulledout.errors import (InvalidBook, InvalidItem, InvalidNumber, InvalidOption, InvalidStep, LimitExceeded,
                              NotRight)
from pulledout.faults import is_right, require_right
from pulledout.items import is_item, is_step
from pulledout.limits import check_limit
from pulledout.names import is_integer
from pulledout.picks import sets_of_numbers
from pulledout.rows import HandRow, PullRow, WorkRow

_MOST_STEPS = 6
_MOST_OPTIONS = 5


def least_steps(book, *, limit=6000):
    """The list of all least sets of the puller's steps, as rising tuples, those with fewer ahead, then ascending."""
    _check_search(book, limit)
    return _least(sets_of_numbers(len(book.puller)), lambda chosen: _with_steps(book, chosen), limit)


def needed_steps(book, *, limit=6000):
    """For a right book a dict from the index of each step without which it is not right to (word, run), a fault."""
    require_right(book, limit=limit)
    told = {}
    for index, step in enumerate(book.puller):
        shown = None if step[0] in ("lock", "unlock") else _shown_without(book, index, limit)
        if shown is not None:
            told[index] = shown
    return told


class Options:
    """Rows that may stand in the places of a book's own."""

    def __init__(self, book, *options):
        self._book = book
        self._options = []
        for option in options:
            self.add(option)

    @property
    def book(self):
        """The book."""
        return self._book

    def add(self, option):
        """Take an option in."""
        _check_option(self._book, option)
        if len(self._options) == _MOST_OPTIONS:
            raise LimitExceeded(_MOST_OPTIONS)
        self._options = [*self._options, option]

    def __iadd__(self, other):
        self.add(other)
        return self

    def __len__(self):
        return len(self._options)

    def __getitem__(self, at):
        if not is_integer(at, 0, len(self._options) - 1):
            raise InvalidNumber(at)
        return self._options[at]

    def __iter__(self):
        return iter(self._options)

    def __contains__(self, value):
        return _is_option_by_form(self._book, value) and value in self._options

    def is_choice(self, value):
        """Whether any value is a rising tuple of indexes, no two of options for one part."""
        if not isinstance(value, tuple):
            return False
        if not all([is_integer(index, 0, len(self._options) - 1) for index in value]):
            return False
        parts = [_part_of(self._options[index]) for index in value]
        return list(value) == sorted(value) and len(parts) == len({part for part in parts})

    def changed(self, chosen):
        """The book with the options of a choice."""
        if not self.is_choice(chosen):
            raise InvalidNumber(chosen)
        return _with_options(self._book, [self._options[index] for index in chosen])

    def least_changes(self, *, limit=6000):
        """The list of all least choices, those with fewer ahead, then ascending."""
        _check_search(self._book, limit)
        choices = [chosen for chosen in sets_of_numbers(len(self._options)) if self.is_choice(chosen)]
        return _least(choices, lambda chosen: self._changed_or_none(chosen), limit)

    def _changed_or_none(self, chosen):
        try:
            return self.changed(chosen)
        except InvalidBook:
            return None


def _check_search(book, limit):
    check_limit(limit)
    if len(book.puller) > _MOST_STEPS:
        raise LimitExceeded(_MOST_STEPS)


def _least(candidates, book_with, limit):
    """Of the sets, smaller ones ahead, those whose book is right, and that of no set within is; none may be no book."""
    told = []
    for chosen in candidates:
        if not any([_is_within(known, chosen) for known in told]):
            book = book_with(chosen)
            if book is not None and is_right(book, limit=limit):
                told.append(chosen)
    return told


def _is_within(known, chosen):
    return all([number in chosen for number in known])


def _with_steps(book, chosen):
    """The book with these steps alone, or None if they are no row."""
    steps = [book.puller[index] for index in chosen]
    try:
        row = PullRow(*steps)
    except InvalidStep:
        return None
    return book.changed(puller=row)


def _shown_without(book, left_out, limit):
    """A word and a Run that shows it in the book without the step, or None if this one is right."""
    steps = tuple([step for index, step in enumerate(book.puller) if index != left_out])
    try:
        require_right(book.changed(puller=steps), limit=limit)
    except NotRight as e:
        return e.word, e.run
    return None


def _part_of(option):
    return option[:-1]


def _is_for_part(book, value):
    """Whether any value is a tuple with a part that the book has, and a tuple in the place of its row."""
    if not isinstance(value, tuple) or len(value) not in (2, 3) or not isinstance(value[-1], tuple):
        return False
    if not all([isinstance(word, str) for word in _part_of(value)]):
        return False
    return _part_of(value) in [("hands",), ("puller",), *[("works", name) for name in book.works()]]


def _is_option_by_form(book, value):
    if not _is_for_part(book, value):
        return False
    if value[0] == "puller":
        return all([is_step(step) for step in value[-1]])
    return all([is_item(item) for item in value[-1]])


def _check_option(book, option):
    if not _is_for_part(book, option):
        raise InvalidOption(option)
    try:
        _check_row(option)
        _with_options(book, [option])
    except (InvalidItem, InvalidStep, InvalidBook) as e:
        raise InvalidOption(option) from e


def _check_row(option):
    parts = option[-1]
    if option[0] == "puller":
        PullRow(*parts)
    elif option[0] == "hands":
        HandRow(*parts)
    else:
        WorkRow(*parts)


def _with_options(book, options):
    hands = None
    puller = None
    works = {name: book[name] for name in book.works()}
    for option in options:
        if option[0] == "hands":
            hands = option[-1]
        elif option[0] == "puller":
            puller = option[-1]
        else:
            works[option[1]] = option[-1]
    return book.changed(hands=hands, works=works, puller=puller)
