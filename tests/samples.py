"""Books that several tests look at."""

import model
from making import Maker

from pulledout.books import Book

LOOK, HOLD, TRY, LET = ("look",), ("hold",), ("try",), ("let",)
ENTER, LEAVE, TOUCH, USE = ("enter",), ("leave",), ("touch",), ("use",)
LOCK, UNLOCK = ("lock",), ("unlock",)
OUT, WAIT, EMPTY, DOWN, MARK = ("out",), ("wait",), ("empty",), ("down",), ("mark", "gone")

HANDS = (LOOK, TRY, ENTER, ("ask", "gone", (LEAVE, LET)), TOUCH, LEAVE, LET)
SOUND = (OUT, MARK, WAIT, DOWN, LET)
LOCKED = (LOCK, LOOK, HOLD, UNLOCK)

# By what they are: the parts of a book, and the words of its faults.
NAMED = {
    "sound": ((HANDS, {}, SOUND), ()),
    "waits too early": ((HANDS, {}, (OUT, WAIT, MARK, DOWN, LET)), ("touched",)),
    "does nothing": (((LOOK, HOLD, LET), {}, ()), ("kept",)),
    "uses what is freed": (((LOOK, TRY, LET), {}, (LET, WAIT)), ("used",)),
    "bare hold": (((LOOK, HOLD, LET), {}, (OUT, LET)), ("used",)),
    "hold in the lock": ((LOCKED + (LET,), {}, (LOCK, OUT, UNLOCK, EMPTY, LET)), ()),
    "waits with the lock": ((LOCKED + (ENTER, LOCK, UNLOCK, LEAVE, LET), {}, (LOCK, OUT, WAIT, UNLOCK, LET)),
                            ("stuck",)),
    "keeps the lock": ((LOCKED + (LET,), {}, (LOCK, OUT, EMPTY, LET)), ("stuck",)),
    "leaks": (((LOOK, TRY, TOUCH), {}, (EMPTY, LET)), ("stuck", "kept")),
    "all faults": ((LOCKED + (TOUCH, LOCK, UNLOCK), {}, (DOWN, LET, MARK, LOCK)),
                   ("touched", "used", "stuck", "kept")),
    "holds for the puller": (((LOOK, HOLD, LET), {}, (OUT, EMPTY, LET, MARK)), ("used",)),
    "stuck by two": ((LOCKED + (LET,), {}, (LET, WAIT, LOCK)), ("used", "stuck")),
    "stuck sooner by two": ((LOCKED + (USE, USE, LOCK, UNLOCK, LET), {}, (LET, WAIT, LOCK)), ("used", "stuck")),
    "used sooner by one": (((LOOK, HOLD, LET), {}, (LET, OUT, DOWN, LOCK, UNLOCK, WAIT)), ("used",)),
    "a work": (((LOOK, TRY, ("start", "job"), LET), {"job": (TOUCH,)}, (OUT, EMPTY, DOWN, LET)), ("touched",)),
    "a work that is barred": (
        ((LOOK, TRY, ("start", "job"), LET), {"job": (TOUCH,)},
         (OUT, ("bar", "job"), ("forget", "job"), ("idle", "job"), DOWN, LET)), ()),
    "two works": (
        ((LOOK, TRY, ("start", "tick"), LET), {"job": (USE,), "tick": (("start", "job"), LOCK, UNLOCK)},
         (OUT, EMPTY, LOCK, ("idle", "tick"), UNLOCK, LET)), ("used", "stuck")),
}


def made(parts):
    hands, works, puller = parts
    return Book(hands, works, puller=puller)


def samples(most_by_chance, largest=600):
    """Pairs of parts and the book: the named ones, and some made by chance that have not too many states."""
    told = [(parts, made(parts)) for parts, _ in NAMED.values()]
    seed = 0
    while len(told) < len(NAMED) + most_by_chance:
        seed += 1
        parts = Maker(seed).book(seed % 3, many=4 if seed % 3 else 6)
        if len(model.explore(parts, 1)[0]) < largest:
            told.append((parts, made(parts)))
    return told
