"""Texts of items, steps, rows and books ([15])."""

from pulledout.books import Book
from pulledout.errors import InvalidText
from pulledout.items import is_item, is_step
from pulledout.names import is_name

_BETWEEN = ";"
_OPENED = "("
_CLOSED = ")"


def write_item(item):
    """The text of an item or a step."""
    if item[0] != "ask":
        return " ".join(item)
    _, mark, way_out = item
    inside = [_write_parts(way_out)] if len(way_out) > 0 else []
    return " ".join(["ask", mark, _OPENED, *inside, _CLOSED])


def write_row(row):
    """The text of a HandRow, a WorkRow or a PullRow."""
    return _write_parts(row.parts)


def write_book(book):
    """The text of a book."""
    works = [f"work {name} {write_row(book[name])}" for name in book.works()]
    puller = "puller" if len(book.puller) == 0 else f"puller {write_row(book.puller)}"
    return "\n".join([f"hands {write_row(book.hands)}", *works, puller])


def read_items(text):
    """The tuple of the items that a text tells."""
    return _told_or_refused(text, _items_or_none)


def read_steps(text):
    """The tuple of the steps that a text tells."""
    return _told_or_refused(text, _steps_or_none)


def read_book(text):
    """The Book that a text tells."""
    if not isinstance(text, str):
        raise InvalidText(None)
    rows = text.split("\n")
    hands = _items_behind("hands", rows[0])
    if hands is None:
        raise InvalidText(0)
    works = _works_from(rows)
    line = 1 + len(works)
    steps = _steps_behind_puller(rows[line]) if line < len(rows) else None
    if steps is None:
        raise InvalidText(line)
    if line + 1 < len(rows):
        raise InvalidText(line + 1)
    return Book(hands, works, puller=steps)


def _write_parts(parts):
    return f" {_BETWEEN} ".join([write_item(part) for part in parts])


def _told_or_refused(text, reader):
    if not isinstance(text, str):
        raise InvalidText(None)
    told = reader(text)
    if told is None:
        raise InvalidText(0)
    return told


def _works_from(rows):
    """The dict of the items of the works, from the rows behind the first one that are written as works."""
    works = {}
    last = ""
    for row in rows[1:]:
        word, _, rest = row.partition(" ")
        name, _, told = rest.partition(" ")
        items = _items_or_none(told)
        if word != "work" or not is_name(name) or name <= last or items is None:
            return works
        works[name] = items
        last = name
    return works


def _items_behind(word, row):
    """The tuple of the items of a row that begins with the word, or None."""
    first, _, rest = row.partition(" ")
    return _items_or_none(rest) if first == word else None


def _steps_behind_puller(row):
    """The tuple of the steps of the puller's row, or None."""
    if row == "puller":
        return ()
    first, _, rest = row.partition(" ")
    return _steps_or_none(rest) if first == "puller" and rest != "" else None


def _items_or_none(text):
    items = [_item_of(words) for words in _parted(text.split(" "))]
    return tuple(items) if all([is_item(item) for item in items]) else None


def _steps_or_none(text):
    steps = [tuple(words) for words in _parted(text.split(" "))] if text != "" else []
    return tuple(steps) if all([is_step(step) for step in steps]) else None


def _item_of(words):
    """What would be the item of these words; it is none if they are not written as one."""
    if words[:1] != ["ask"] or words[2:3] != [_OPENED] or words[-1] != _CLOSED:
        return tuple(words)
    inside = words[3:-1]
    way_out = [tuple(part) for part in _parted(inside)] if len(inside) > 0 else []
    return (*words[:2], tuple(way_out))


def _parted(words):
    """The list of the lists of words between the signs that stand outside of parentheses."""
    told = [[]]
    depth = 0
    for word in words:
        if word == _OPENED:
            depth = depth + 1
        elif word == _CLOSED:
            depth = depth - 1
        if word == _BETWEEN and depth == 0:
            told.append([])
        else:
            told[-1].append(word)
    return told
