"""Books that are made by chance, the same ones each time."""

import random

import model

MARKS = ("gone", "dead")


class Maker:
    """Makes rows and books; what it makes by chance follows from its seed."""

    def __init__(self, seed):
        self.chance = random.Random(seed)

    def one_of(self, values):
        return self.chance.choice(list(values))

    def may(self, percent):
        return self.chance.randrange(100) < percent

    def items(self, many, works, asks, under=False, locked=False):
        """So many items at most that may stand behind one another, and whether one is under way, has the lock then."""
        told = []
        for _ in range(self.chance.randrange(many + 1)):
            words = ["touch", "use", "leave" if under else "enter", "unlock" if locked else "lock"]
            if works:
                words.append("start")
            if asks:
                words += ["ask", "ask"]
            word = self.one_of(words)
            if word == "start":
                told.append(("start", self.one_of(works)))
            elif word == "ask":
                told.append(("ask", self.one_of(MARKS), self.way_out(works, under, locked, asks == "hands")))
            else:
                told.append((word,))
            under = word == "enter" or under and word != "leave"
            locked = word == "lock" or locked and word != "unlock"
        return told, under, locked

    def closing(self, under, locked):
        told = [("leave",)] * under + [("unlock",)] * locked
        self.chance.shuffle(told)
        return told

    def way_out(self, works, under, locked, lets):
        told, under, locked = self.items(1, works, None, under, locked)
        told += self.closing(under, locked)
        if lets and self.may(80) and len(told) < 4:
            told.append(("let",))
        return tuple(told[:4])

    def hands(self, works=(), many=6):
        while True:
            opening = self.one_of(model.OPENINGS)
            told, under, locked = self.items(many, works, "hands")
            row = [(word,) for word in opening] + told + self.closing(under, locked)
            if self.may(85):
                row.append(("let",))
            if model.end_of(row) <= 14 and model.misplaced(row, len(opening)) is None:
                return tuple(row)

    def work(self, works=(), many=4):
        while True:
            told, under, locked = self.items(many, works, "works")
            row = told + self.closing(under, locked)
            if 1 <= model.end_of(row) <= 14 and model.misplaced(row, 0) is None:
                return tuple(row)

    def puller(self, works=(), many=6):
        steps = [("out",), ("down",), ("let",), ("mark", "gone"), ("mark", "dead"), ("wait",), ("wait",), ("empty",)]
        for name in works:
            steps += [("bar", name), ("forget", name), ("idle", name)]
        told = self.chance.sample(steps, self.chance.randrange(min(many, len(steps)) + 1))
        if self.may(30):
            at = self.chance.randrange(len(told) + 1)
            told.insert(at, ("lock",))
            if self.may(80):
                told.insert(self.chance.randrange(at + 1, len(told) + 1), ("unlock",))
        return tuple(told[:9])

    def sensible_puller(self, works=()):
        """A puller that may well be right: all that it should do, in an order that is often good."""
        told = [("out",), ("mark", "gone"), ("mark", "dead"), ("wait",), ("down",), ("let",)]
        told = [step for step in told if self.may(95)]
        for name in works:
            told[-1:-1] = [("bar", name), ("forget", name), ("idle", name)]
        if self.may(30):
            told.insert(self.chance.randrange(len(told) + 1), ("empty",))
        return tuple(told[-9:])

    def state(self, book):
        """A state of a book of the model, most often one to which no run leads."""
        hands, works, puller = book
        while True:
            came = self.chance.randrange(9)
            inside = self.chance.randrange(came + 1)
            places = tuple(sorted(self.chance.randrange(model.end_of(hands)) for _ in range(inside)))
            jobs = tuple((self.may(50), self.one_of([None] + list(range(model.end_of(works[name])))))
                         for name in sorted(works))
            state = (came, places, jobs, self.chance.randrange(len(puller) + 1), inside < came and self.may(20))
            if model.locks(book, state) < 2:
                return state

    def book(self, many_works, many=6):
        """A book as the model has it."""
        works = ("job", "tick")[:many_works]
        puller = self.sensible_puller(works) if self.may(40) else self.puller(works)
        return self.hands(works, many), {name: self.work(works) for name in works}, puller
