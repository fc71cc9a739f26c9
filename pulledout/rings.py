"""Reaches: whether a hand can come to a touch or a hold too late, by orders and rings of events ([3](b), [12])."""

from pulledout.errors import InvalidNumber, LimitExceeded
from pulledout.events import choices_of, events_of, is_event, is_lacking, pairs_of_path, path_to
from pulledout.items import is_use
from pulledout.names import is_integer
from pulledout.runs import Run, fault_at_end
from pulledout.sorting import order_of, ring_of

_MOST_DOUBLE = 5


def is_tidy(book):
    """Whether none of the puller's steps behind its let uses the record."""
    let = book.puller.first("let")
    return let is None or not any([is_use(step) for step in book.puller.parts[let + 1:]])


def askable(book):
    """The rising list of the askable places of the hand's row."""
    words = ("touch", "hold") if is_tidy(book) else ("touch",)
    return [place for place in range(book.hands.size) if book.hands.item(place)[0] in words]


def unsafe_places(book):
    """The rising list of the askable places whose answer is a run."""
    reaches = [Reach(book, place) for place in askable(book)]
    return [reach.goal for reach in reaches if reach.answer()[0] == "run"]


class Reach:
    """All that has to be ahead of something else for a hand to come to an askable place too late."""

    def __init__(self, book, place):
        if not is_integer(place, 0, book.hands.size - 1) or place not in askable(book):
            raise InvalidNumber(place)
        self._book = book
        self._goal = place
        self._path = path_to(book.hands, place)
        self._lacks = is_lacking(book, self._path)
        self._pairs = pairs_of_path(book, self._path)
        self._choices = choices_of(book, self._path)
        if len([choice for choice in self._choices if len(choice) == 2]) > _MOST_DOUBLE:
            raise LimitExceeded(_MOST_DOUBLE)
        self._cases = _cases_of(self._choices)

    @property
    def goal(self):
        """The place."""
        return self._goal

    @property
    def lacks(self):
        """Whether a step that would have to be ahead of an item is not there."""
        return self._lacks

    def path(self):
        """The rising list of the places whose items a hand does up to the place, itself the last."""
        return list(self._path)

    def events(self):
        """The list of the events of the path, then those of the puller."""
        return events_of(self._book, self._path)

    def pairs(self):
        """The ascending list of the pairs that always hold."""
        return list(self._pairs)

    def choices(self):
        """The list of the choices: of the pairs of each, one holds."""
        return list(self._choices)

    def cases(self):
        """All cases, ascending: each has the index of a pair for each choice."""
        yield from self._cases

    def __len__(self):
        return len(self._cases)

    def pairs_of(self, case):
        """The ascending list of the pairs of a case."""
        self._check_case(case)
        chosen = [choice[index] for choice, index in zip(self._choices, case)]
        return sorted({pair for pair in [*self._pairs, *chosen]})

    def order(self, case):
        """A list of all events in an order that keeps the pairs of the case, or None."""
        return order_of(self.events(), self.pairs_of(case))

    def ring(self, case):
        """A ring of the case, or None."""
        return ring_of(self.events(), self.pairs_of(case))

    def is_ring(self, case, value):
        """Whether any value is a ring of the case."""
        pairs = self.pairs_of(case)
        if not isinstance(value, tuple) or len(value) == 0 or not all([is_event(event) for event in value]):
            return False
        return all([pair in pairs for pair in zip(value, [*value[1:], value[0]])])

    def answer(self):
        """("never",), ("run", a Run whose last move is the fault), or ("rings", a list with a ring for each case)."""
        if self._lacks:
            return ("never",)
        for case in self._cases:
            order = self.order(case)
            if order is not None:
                return ("run", self._run_of(order))
        return ("rings", [self.ring(case) for case in self._cases])

    def is_answer(self, value):
        """Whether any value is an answer, with any run, or any rings, of the kind."""
        if not isinstance(value, tuple) or len(value) == 0 or not isinstance(value[0], str):
            return False
        if self._lacks:
            return len(value) == 1 and value[0] == "never"
        if len(value) != 2:
            return False
        if value[0] == "run":
            return self._is_run_there(value[1])
        return value[0] == "rings" and self._are_rings(value[1])

    def _check_case(self, value):
        if not isinstance(value, tuple) or len(value) != len(self._choices):
            raise InvalidNumber(value)
        if not all([is_integer(index, 0, len(choice) - 1) for choice, index in zip(self._choices, value)]):
            raise InvalidNumber(value)

    def _run_of(self, order):
        goal = ("hand", self._goal)
        events = order[:order.index(goal) + 1]
        moves = [("go", number) if who == "hand" else ("step",) for who, number in events]
        return Run(("come",), *moves)

    def _is_run_there(self, value):
        return fault_at_end(self._book, value) is not None and value[len(value) - 1] == ("go", self._goal)

    def _are_rings(self, value):
        if not isinstance(value, list) or len(value) != len(self._cases):
            return False
        return all([self.is_ring(case, ring) for case, ring in zip(self._cases, value)])


def _cases_of(choices):
    told = [()]
    for choice in choices:
        told = [(*case, index) for case in told for index in range(len(choice))]
    return told
