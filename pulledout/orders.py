"""The orders of a puller's steps, which of them are right, and what tells these ([3](f), [14])."""

from pulledout.errors import InvalidStep, LimitExceeded
from pulledout.faults import is_right
from pulledout.limits import check_limit
from pulledout.names import is_integer
from pulledout.picks import orders_of_numbers

_MOST_STEPS = 5
_MOST_WORDS = 6


def orders_of(row):
    """The orders of the row's steps, ascending, as tuples of their indexes."""
    _check_steps(row)
    for order in orders_of_numbers(len(row)):
        if _is_lock_ahead(row, order):
            yield order


def right_orders(book, *, limit=6000):
    """The ascending list of the right orders of the puller's steps."""
    _, right = _sorted_out(book, limit)
    return right


def kept_pairs(book, *, limit=6000):
    """The ascending list of the pairs that all right orders keep, or None if no order is right."""
    _, right = _sorted_out(book, limit)
    if len(right) == 0:
        return None
    numbers = range(len(book.puller))
    pairs = [(first, other) for first in numbers for other in numbers if first != other]
    return [pair for pair in pairs if all([_keeps(order, pair) for order in right])]


def alternatives(book, *, limit=6000):
    """A list of alternatives such that each right order keeps one of them."""
    wrong, right = _sorted_out(book, limit)
    told = []
    for order in right:
        if not any([_keeps_all(order, pairs) for pairs in told]):
            told.append(_alternative_for(order, wrong, right))
    return told


def is_alternatives(book, value, *, limit=6000):
    """Whether any value is a list of alternatives such that each right order keeps one of them."""
    wrong, right = _sorted_out(book, limit)
    if not isinstance(value, list):
        return False
    if not all([_is_alternative(pairs, len(book.puller), wrong, right) for pairs in value]):
        return False
    return all([any([_keeps_all(order, pairs) for pairs in value]) for order in right])


def right_words(plain):
    """The list of all orders of a Plain's pulls, as tuples of words, in which it has no fault."""
    if len(plain) > _MOST_WORDS:
        raise LimitExceeded(_MOST_WORDS)
    told = [tuple([plain.pulls[index] for index in order]) for order in orders_of_numbers(len(plain))]
    return [words for words in told if _are_pulls(words) and len(plain.pulled(*words).faults()) == 0]


def _check_steps(row):
    if len(row) > _MOST_STEPS:
        raise LimitExceeded(_MOST_STEPS)
    for index, step in enumerate(row):
        if step in row.parts[:index]:
            raise InvalidStep(index)


def _is_lock_ahead(row, order):
    """Whether the steps, which are unlike ones, are a puller's row in this order."""
    lock = row.first("lock")
    unlock = row.first("unlock")
    return lock is None or unlock is None or _keeps(order, (lock, unlock))


def _are_pulls(words):
    return "unlock" not in words or words.index("lock") < words.index("unlock")


def _sorted_out(book, limit):
    """The lists of the wrong and of the right orders."""
    check_limit(limit)
    wrong = []
    right = []
    for order in orders_of(book.puller):
        steps = tuple([book.puller[index] for index in order])
        told = right if is_right(book.changed(puller=steps), limit=limit) else wrong
        told.append(order)
    return wrong, right


def _keeps(order, pair):
    return order.index(pair[0]) < order.index(pair[1])


def _keeps_all(order, pairs):
    return all([_keeps(order, pair) for pair in pairs])


def _are_enough(pairs, wrong):
    """Whether each order that keeps the pairs is right."""
    return not any([_keeps_all(order, pairs) for order in wrong])


def _without(pairs, pair):
    return tuple([other for other in pairs if other != pair])


def _alternative_for(order, wrong, right):
    """An alternative that this right order keeps."""
    pairs = tuple(sorted([(first, other) for at, first in enumerate(order) for other in order[at + 1:]]))
    # First to be left out are the pairs that the fewest right orders keep: so one alternative tells many of them.
    by_use = sorted([(len([told for told in right if _keeps(told, pair)]), pair) for pair in pairs])
    for _, pair in by_use:
        left = _without(pairs, pair)
        if _are_enough(left, wrong):
            pairs = left
    return pairs


def _is_alternative(value, many, wrong, right):
    if not isinstance(value, tuple) or not all([_is_pair(pair, many) for pair in value]):
        return False
    if list(value) != sorted({pair for pair in value}):
        return False
    if not any([_keeps_all(order, value) for order in right]) or not _are_enough(value, wrong):
        return False
    return not any([_are_enough(_without(value, pair), wrong) for pair in value])


def _is_pair(value, many):
    if not isinstance(value, tuple) or len(value) != 2:
        return False
    return all([is_integer(index, 0, many - 1) for index in value]) and value[0] != value[1]
