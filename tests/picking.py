"""The document's point [14] once more, as plainly as it is told: by all orders, all pairs and all sets."""

import itertools

import model

from pulledout.faults import is_right


def is_puller(steps):
    """Whether the steps, which are some of a puller's row, are a puller's row in this order."""
    has_lock = False
    for step in steps:
        if step in (("lock",), ("unlock",)):
            if has_lock == (step == ("lock",)):
                return False
            has_lock = not has_lock
    return True


def orders_of(steps):
    """The orders of the steps, ascending."""
    return [order for order in itertools.permutations(range(len(steps))) if is_puller([steps[index] for index in order])]


def right_orders(book):
    steps = book.puller.parts
    return [order for order in orders_of(steps)
            if is_right(book.changed(puller=tuple(steps[index] for index in order)), limit=100000)]


def pairs_of(many):
    return list(itertools.permutations(range(many), 2))


def keeping(orders, pairs):
    """The orders that keep all of the pairs."""
    return [order for order in orders if all(order.index(first) < order.index(other) for first, other in pairs)]


def are_alternative(orders, right, pairs):
    """Whether these ascending pairs are an alternative."""
    def tells(told):
        kept = keeping(orders, told)
        return len(kept) > 0 and all(order in right for order in kept)
    return tells(pairs) and not any(tells(pairs[:at] + pairs[at + 1:]) for at in range(len(pairs)))


def all_alternatives(orders, right, many):
    """All alternatives of few steps."""
    pairs = pairs_of(many)
    told = [chosen for size in range(len(pairs) + 1) for chosen in itertools.combinations(pairs, size)]
    return [chosen for chosen in told if are_alternative(orders, right, chosen)]


def sets_of(many):
    """All rising tuples, those with fewer ahead, then ascending."""
    return [chosen for size in range(many + 1) for chosen in itertools.combinations(range(many), size)]


def least(candidates, works):
    """The candidates that work, and no candidate within which does."""
    good = [chosen for chosen in candidates if works(chosen)]
    return [chosen for chosen in good if not any(set(other) < set(chosen) for other in good)]


def looked_at(candidates, found):
    """The candidates but those that have another one that is found within them."""
    return [chosen for chosen in candidates if not any(set(other) < set(chosen) for other in found)]


def many_states(book, hands=1):
    """How many states the table of the book has."""
    works = {name: book[name].parts for name in book.works()}
    return len(model.explore((book.hands.parts, works, book.puller.parts), hands)[0])
