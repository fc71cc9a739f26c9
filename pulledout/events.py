"""What has to be ahead of what for a hand to come to a place too late ([12]).

Events are the tuples ("hand", place) and ("puller", index); a pair of them tells that the first one comes ahead.
"""

from pulledout.names import is_integer

_HIGHEST_NUMBER = 13

# The step of the puller that ends what such an item of a hand needs.
_ENDED_BY = {"look": "out", "hold": "let", "try": "let", "touch": "down"}


def is_event(value):
    """Whether any value is an event by its form."""
    if not isinstance(value, tuple) or len(value) != 2 or not isinstance(value[0], str):
        return False
    return value[0] in ("hand", "puller") and is_integer(value[1], 0, _HIGHEST_NUMBER)


def path_to(row, goal):
    """The rising list of the places whose items a hand does up to this one, itself the last."""
    # No place but the end has two that lead to it.
    ahead = {behind: place for place in range(goal) for behind in row.nexts(place)}
    path = [goal]
    while path[-1] in ahead:
        path.append(ahead[path[-1]])
    return sorted(path)


def events_of(book, path):
    """The list of the events of the path, then those of the puller."""
    return [*[("hand", place) for place in path], *[("puller", index) for index in range(len(book.puller))]]


def pairs_of_path(book, path):
    """The ascending list of the pairs that hold in each case, none twice."""
    events = events_of(book, path)
    by_hand = events[:len(path)]
    by_puller = events[len(path):]
    told = [*list(zip(by_hand, by_hand[1:])), *list(zip(by_puller, by_puller[1:]))]
    for place, index, is_late in _bounds(book, path):
        if index is not None:
            told.append(_pair(index, place) if is_late else _turned(_pair(index, place)))
    return sorted({pair for pair in told})


def is_lacking(book, path):
    """Whether a step is not there that would have to be ahead of an item of the path."""
    return any([is_late and index is None for _, index, is_late in _bounds(book, path)])


def choices_of(book, path):
    """The list of the choices: tuples of two pairs, or of one, of which one holds."""
    return [*_wait_choices(book, path), *_empty_choices(book, path), *_lock_choices(book, path)]


def _pair(index, place):
    return (("puller", index), ("hand", place))


def _turned(pair):
    return (pair[1], pair[0])


def _bounds(book, path):
    """The tuples (place, index, is_late): the step that comes behind the item, or, where that is late, ahead of it."""
    told = []
    for place, behind in zip(path, [*path[1:], None]):
        item = book.hands.item(place)
        if item[0] == "ask":
            told.append((place, book.puller.first("mark", item[1]), behind != book.hands.nexts(place)[0]))
        elif item[0] in _ENDED_BY:
            told.append((place, book.puller.first(_ENDED_BY[item[0]]), place == path[-1]))
    return told


def _wait_choices(book, path):
    spans = _spans(book, path, "enter", "leave")
    return [(_turned(_pair(index, last)), _pair(index, first))
            for index in _indexes(book, "wait") for first, last in spans]


def _empty_choices(book, path):
    # A hand that comes to a hold does not hold yet, so an empty does not wait for it.
    if book.hands.item(path[-1])[0] != "touch":
        return []
    taken = [place for place in path if book.hands.item(place)[0] in ("hold", "try")]
    return [(_turned(_pair(index, path[-1])), _pair(index, place))
            for index in _indexes(book, "empty") for place in taken]


def _lock_choices(book, path):
    told = []
    for first, last in _spans(book, path, "lock", "unlock"):
        for index in _indexes(book, "lock"):
            unlocks = [other for other in _indexes(book, "unlock") if other > index]
            told.append((_turned(_pair(index, last)), *[_pair(other, first) for other in unlocks[:1]]))
    return told


def _spans(book, path, first_word, last_word):
    """For each such first item of the path its place and that of the last one behind it, or else the goal."""
    told = []
    for at, place in enumerate(path):
        if book.hands.item(place)[0] == first_word:
            lasts = [other for other in path[at + 1:] if book.hands.item(other)[0] == last_word]
            told.append((place, [*lasts, path[-1]][0]))
    return told


def _indexes(book, word):
    return [index for index, step in enumerate(book.puller) if step[0] == word]
