"""Plain books, which are told by words, and their faults by the places of their steps alone ([3](c), [13])."""

from pulledout.books import Book
from pulledout.engine import FAULT_WORDS
from pulledout.errors import InvalidOption, InvalidStep, UnknownName

_OPENS = {"bare": (("look",), ("hold",)),
          "tried": (("look",), ("try",)),
          "locked": (("lock",), ("look",), ("hold",), ("unlock",))}
_ASKS = {"in": (("enter",), ("ask", "gone", (("leave",), ("let",))), ("touch",), ("leave",), ("let",)),
         "ahead": (("ask", "gone", (("let",),)), ("enter",), ("touch",), ("leave",), ("let",)),
         "none": (("enter",), ("touch",), ("leave",), ("let",)),
         "locked": (("lock",), ("ask", "gone", (("unlock",), ("let",))), ("touch",), ("unlock",), ("let",))}
_STEPS = {"out": ("out",), "mark": ("mark", "gone"), "wait": ("wait",), "empty": ("empty",), "down": ("down",),
          "let": ("let",), "lock": ("lock",), "unlock": ("unlock",)}

# These steps use the record: behind the let they are faults.
_USES = ("mark", "wait", "empty")


class Plain:
    """A plain book: how its hands open, where they ask, and the words of the puller's steps."""

    def __init__(self, opens, asks, *pulls):
        if not isinstance(opens, str) or opens not in _OPENS:
            raise InvalidOption(opens)
        if not isinstance(asks, str) or asks not in _ASKS:
            raise InvalidOption(asks)
        for index, word in enumerate(pulls):
            if not _is_pull(word) or word in pulls[:index]:
                raise InvalidStep(index)
            if word == "unlock" and "lock" not in pulls[:index]:
                raise InvalidStep(index)
        self._opens = opens
        self._asks = asks
        self._pulls = pulls

    @staticmethod
    def of(opens, asks, pulls):
        """The one with the pulls of a list or a tuple."""
        return Plain(opens, asks, *pulls)

    @staticmethod
    def sound():
        """One without a fault."""
        return Plain("tried", "in", "out", "mark", "wait", "down", "let")

    @property
    def opens(self):
        """How the hands open."""
        return self._opens

    @property
    def asks(self):
        """Where the hands ask."""
        return self._asks

    @property
    def pulls(self):
        """The tuple of the words of the puller's steps."""
        return self._pulls

    def __len__(self):
        return len(self._pulls)

    def __contains__(self, value):
        return _is_pull(value) and value in self._pulls

    def __eq__(self, other):
        if not isinstance(other, Plain):
            return False
        return self._opens == other._opens and self._asks == other._asks and self._pulls == other._pulls

    def pulled(self, *pulls):
        """The one with these pulls in the places of its own."""
        return Plain(self._opens, self._asks, *pulls)

    def as_book(self):
        """The Book."""
        return Book((*_OPENS[self._opens], *_ASKS[self._asks]), puller=tuple([_STEPS[word] for word in self._pulls]))

    def ahead(self, word):
        """The greatest number of done steps beside which the word is not done."""
        if not _is_pull(word):
            raise UnknownName(word)
        return self._pulls.index(word) if word in self._pulls else len(self._pulls)

    def behind(self, word):
        """The number behind the one that ahead tells."""
        return self.ahead(word) + 1

    def gaps(self):
        """The list of the tuples (first, last) of numbers beside which the puller does not have the lock."""
        unlocked = [(self.behind("unlock"), len(self._pulls))] if "unlock" in self._pulls else []
        return [(0, self.ahead("lock")), *unlocked]

    def openings(self):
        """The list of the tuples (lowest, highest) of numbers beside which a hand that holds may be."""
        told = [(0, self.ahead("empty"))]
        if "empty" in self._pulls:
            starts = [least for least in self._starts_behind_empty() if least <= self.ahead("let")]
            told.extend([(least, len(self._pulls)) for least in starts[:1]])
        return told

    def faults(self):
        """The list of the words of its faults, whatever the number of hands."""
        shown = {"touched": _is_touched(self), "used": _is_used(self), "stuck": _is_stuck(self),
                 "kept": "let" not in self._pulls}
        return [word for word in FAULT_WORDS if shown[word]]

    def _starts_behind_empty(self):
        """The numbers behind the empty beside which a hand may open, but for the let."""
        behind_empty = self.behind("empty")
        if self._opens != "locked":
            return [behind_empty]
        return [max(first, behind_empty) for first, last in self.gaps()
                if first <= self.ahead("out") and behind_empty <= last]


def _is_pull(value):
    # Any value may stand here: only texts are compared, others might refuse to be.
    return isinstance(value, str) and value in _STEPS


def _is_touched(plain):
    if plain.asks == "locked":
        return any([_is_touched_locked(plain, opening, gap) for opening in plain.openings() for gap in plain.gaps()])
    return any([_is_touched_between(plain, opening, span) for opening in plain.openings()
                for span in _spans_around_wait(plain, opening)])


def _is_touched_locked(plain, opening, gap):
    lowest, highest = opening
    first, last = gap
    low = max(lowest, first)
    return low <= plain.ahead("mark") and max(low, plain.behind("down")) <= min(last, highest)


def _spans_around_wait(plain, opening):
    """The tuples (low, high): a hand may be under way from the one to the other."""
    lowest, _ = opening
    return [(lowest, plain.ahead("wait")), (max(lowest, plain.behind("wait")), len(plain))]


def _is_touched_between(plain, opening, span):
    lowest, highest = opening
    low, high = span
    if plain.asks == "in" and low > plain.ahead("mark"):
        return False
    if plain.asks == "ahead" and lowest > plain.ahead("mark"):
        return False
    return max(low, plain.behind("down")) <= min(high, highest)


def _is_used(plain):
    if "let" not in plain:
        return False
    if plain.opens == "bare" or _is_pulled_behind_let(plain, _USES):
        return True
    return plain.opens == "locked" and any([first <= plain.ahead("out") and last >= plain.behind("let")
                                            for first, last in plain.gaps()])


def _is_stuck(plain):
    if "lock" not in plain:
        return False
    if plain.asks == "locked" and _is_empty_locked(plain):
        return True
    if "unlock" in plain or "locked" not in (plain.opens, plain.asks):
        return False
    # Somebody comes to a lock that the puller keeps for good, if it comes to its end with somebody there.
    return not _is_pulled_behind_let(plain, _USES) or "empty" not in plain or len(plain.openings()) == 2


def _is_empty_locked(plain):
    """Whether the puller has the lock when it empties."""
    if "empty" not in plain or plain.ahead("empty") < plain.ahead("lock"):
        return False
    return "unlock" not in plain or plain.ahead("empty") < plain.ahead("unlock")


def _is_pulled_behind_let(plain, words):
    return "let" in plain and any([word in plain and plain.ahead(word) > plain.ahead("let") for word in words])
