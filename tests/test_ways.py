"""The search for ways out: that what it hopes for is never too much, and that this is enough to be quick."""

import unittest

import model
import samples
from making import Maker

from pulledout.ways import NO_WAY, Guide, Search

IDLE, PENDING = (False, None), (True, None)
SLOW = (samples.LOOK, samples.TRY, ("ask", "gone", (samples.LET,)), ("start", "job"), samples.USE, samples.ENTER,
        samples.TOUCH, samples.LEAVE, samples.USE, samples.LET)


def least_left(book, state):
    return Guide(book.engine).least_left(state)


class Hopes(unittest.TestCase):
    @classmethod
    def setUpClass(cls):
        cls.pairs = []
        for parts, book in samples.samples(60, largest=150):
            maker = Maker(13)
            states = list(model.explore(parts, 1)[0])
            some = [maker.one_of(states) for _ in range(4)]
            while len(some) < 12:
                state = maker.state(parts)
                if len(state[1]) < 3:
                    some.append(state)
            cls.pairs += [(parts, book, state) for state in some]

    def test_never_too_much(self):
        told = {}
        for parts, book, state in self.pairs:
            length = model.out_length(parts, state)
            least = least_left(book, state)
            if length is None:
                told["none"] = told.get("none", 0) + 1
                told["none, seen at once"] = told.get("none, seen at once", 0) + (least >= NO_WAY)
            else:
                self.assertLessEqual(least, length, (parts, state))
                told["some"] = told.get("some", 0) + 1
                told["some, exactly"] = told.get("some, exactly", 0) + (least == length)
        self.assertGreater(told["none, seen at once"], told["none"] * 8 // 10)
        self.assertGreater(told["some, exactly"], told["some"] * 9 // 10)

    def test_no_move_gets_on_by_more_than_one(self):
        for parts, book, state in self.pairs:
            least = least_left(book, state)
            for move in model.moves(parts, state, 0):
                if least < NO_WAY and model.fault_of(parts, state, move) is None:
                    self.assertLessEqual(least, 1 + least_left(book, model.after(parts, state, move)), (parts, state, move))

    def test_nothing_left(self):
        for parts, _ in samples.NAMED.values():
            book = samples.made(parts)
            end = (8, (), tuple(IDLE for _ in parts[1]), len(parts[2]), False)
            self.assertEqual(least_left(book, end), 0)


class Exactly(unittest.TestCase):
    """Where each hand and each work keeps out of the way of the others, the hope is just what is left."""

    def check(self, book, *told):
        for state, least in told:
            self.assertEqual(min(least_left(book, state), NO_WAY), least, state)

    def body(self, *items, puller=(), works=None, opening=(samples.LOOK, samples.HOLD)):
        return samples.made((opening + items, works or {}, puller))

    def hand(self, place, done=0, leaked=False):
        return (2, (place,), (), done, leaked)

    def work(self, pending, place, done=0):
        return (0, (), ((pending, place),), done, False)

    def test_hands(self):
        book = samples.made(samples.NAMED["sound"][0])
        for place, left in enumerate((6, 6, 9, 8, 7, 6, 8, 7, 6)):
            self.check(book, (self.hand(place), left))
        for place, left in enumerate((1, 1, 4, 3, 2, 1, NO_WAY, 2, 1)):
            self.check(book, (self.hand(place, 5), left))
        self.check(book, ((8, (2,) * 8, (), 0, False), 37), ((8, (0, 2), (), 5, False), 5))

    def test_looks(self):
        book = self.body(samples.LET, puller=(samples.OUT,))
        self.check(book, (self.hand(0), 2), (self.hand(0, 1), 1), (self.hand(1), 3), (self.hand(1, 1), 2))
        self.check(self.body(samples.LET), (self.hand(0), 3))

    def test_tries(self):
        opening = (samples.LOOK, samples.TRY)
        book = self.body(samples.LET, puller=(samples.LET,), opening=opening)
        self.check(book, (self.hand(1), 2), (self.hand(1, 1), 1), (self.hand(0), 3), (self.hand(0, 1), 2))
        self.check(self.body(samples.LET, opening=opening), (self.hand(1), 2), (self.hand(0), 3))

    def test_touches(self):
        book = self.body(samples.TOUCH, samples.LET, puller=(samples.DOWN,))
        self.check(book, (self.hand(2), 3), (self.hand(2, 1), NO_WAY), (self.hand(3, 1), 1), (self.hand(0, 1), NO_WAY))

    def test_locks(self):
        book = self.body(samples.LOCK, samples.UNLOCK, samples.LET, puller=(samples.LOCK, samples.OUT))
        self.check(book, (self.hand(2), 5), (self.hand(2, 1), NO_WAY), (self.hand(4, 1), 2), (self.hand(3), 4))
        book = self.body(samples.LOCK, samples.UNLOCK, samples.LET, puller=(samples.LOCK, samples.UNLOCK))
        self.check(book, (self.hand(2, 1), 4), (self.hand(2, 2), 3))

    def test_waits(self):
        book = self.body(samples.ENTER, samples.TOUCH, samples.LEAVE, samples.LET, puller=(samples.DOWN, samples.WAIT))
        self.check(book, (self.hand(3), 5), (self.hand(3, 1), NO_WAY), (self.hand(4, 1), 3), (self.hand(2, 2), NO_WAY))

    def test_the_short_way_comes_too_late(self):
        """The way out behind the mark is shorter, but the puller does not come to its mark ahead of it."""
        for step, begin, stop, ahead in ((samples.WAIT, samples.ENTER, samples.LEAVE, 5),
                                         (samples.LOCK, samples.LOCK, samples.UNLOCK, 7)):
            body = (begin, ("ask", "gone", (stop, samples.LET)), samples.USE, samples.USE, stop, samples.LET)
            book = self.body(*body, puller=(samples.MARK,))
            self.check(book, (self.hand(3), 4), (self.hand(3, 1), 3), (self.hand(2), 5), (self.hand(6), 5))
            book = self.body(*body, puller=(step, samples.MARK))
            self.check(book, (self.hand(3), 7), (self.hand(3, 2), 3), (self.hand(7), 5))
            row = {"job": (begin, ("ask", "gone", (stop,)), samples.USE, samples.USE, stop)}
            book = self.body(works=row, puller=(step, samples.MARK))
            self.check(book, (self.work(False, 1), 6), (self.work(False, 1, 2), 2), (self.work(False, 0), ahead))
        row = {"job": (("ask", "gone", ()), samples.USE, samples.USE)}
        book = self.body(works=row, puller=(("idle", "job"), samples.MARK))
        self.check(book, (self.work(False, 0), 5), (self.work(False, 0, 1), 2), (self.work(False, 0, 2), 1),
                   (self.work(True, None), 4))
        book = samples.made(((samples.LOOK, samples.HOLD), {"job": row["job"], "tick": row["job"]}, book.puller.parts))
        self.check(book, ((0, (), ((False, 0), IDLE), 0, False), 5), ((0, (), (IDLE, (False, 0)), 0, False), 3))

    def test_empties(self):
        book = self.body(samples.TOUCH, samples.LET, puller=(samples.DOWN, samples.EMPTY))
        self.check(book, (self.hand(2), 4), (self.hand(2, 1), NO_WAY), (self.hand(3, 1), 2), (self.hand(0, 0), 6))

    def test_asks(self):
        book = self.body(("ask", "gone", (samples.LET,)), samples.USE, samples.USE, samples.LET, puller=(samples.MARK,))
        self.check(book, (self.hand(2), 3), (self.hand(2, 1), 2), (self.hand(4, 1), 3))
        self.check(book.changed(puller=()), (self.hand(2), 4))

    def test_leaks(self):
        book = self.body(("ask", "gone", (samples.LET,)), samples.USE, puller=(samples.MARK, samples.EMPTY, samples.OUT))
        self.check(book, (self.hand(2), 5), (self.hand(4), NO_WAY), (self.hand(4, 2), 2), (self.hand(2, 2), 3))
        self.check(book, ((1, (), (), 1, True), NO_WAY), ((1, (), (), 2, True), 1), ((1, (), (), 1, False), 2))

    def test_empty_behind_let(self):
        book = self.body(samples.LET, puller=(samples.OUT, samples.LET, samples.EMPTY))
        self.check(book, (self.hand(2), NO_WAY), (self.hand(2, 2), NO_WAY), (self.hand(2, 3), 1))
        self.check(book, ((0, (), (), 0, False), NO_WAY), ((1, (), (), 3, True), 0))

    def test_uses_behind_let(self):
        book = self.body(samples.LET, puller=(samples.LET, samples.MARK, samples.OUT))
        nobody = (1, (), (), 1, False)
        self.check(book, (self.hand(2), 4), (self.hand(2, 1), 3), (nobody, NO_WAY), ((1, (), (), 0, False), NO_WAY))
        self.check(book, ((1, (), (), 1, True), 2), (self.hand(1, 1), NO_WAY), (self.hand(0, 1), NO_WAY))
        self.check(book, ((1, (), (), 2, False), 1))

    def test_works(self):
        works = {"job": (samples.ENTER, ("ask", "gone", (samples.LEAVE,)), samples.TOUCH, samples.LEAVE)}
        book = self.body(works=works, puller=(samples.MARK, samples.DOWN))
        self.check(book, (self.work(False, None), 2), (self.work(True, None), 6), (self.work(False, 0), 5),
                   (self.work(False, 1), 4), (self.work(False, 3), 4), (self.work(True, 3, 1), 7))
        self.check(book, (self.work(False, 3, 2), NO_WAY), (self.work(True, None, 2), 4), (self.work(True, 4, 2), 5))

    def test_works_that_are_forgotten(self):
        book = self.body(works={"job": (samples.USE, samples.USE)}, puller=(samples.OUT, ("forget", "job")))
        self.check(book, (self.work(True, None), 2), (self.work(True, 0), 4), (self.work(True, None, 2), 3))
        both = samples.made(((samples.LOOK, samples.HOLD), {"job": (samples.USE,), "tick": (samples.USE,)},
                             (("forget", "job"), ("idle", "tick"))))
        self.check(both, ((0, (), (PENDING, PENDING), 0, False), 4), ((0, (), (PENDING, IDLE), 0, False), 2),
                   ((0, (), (IDLE, PENDING), 0, False), 4), ((0, (), (PENDING, IDLE), 1, False), 3))

    def test_works_that_are_waited_for(self):
        works = {"job": (samples.TOUCH, samples.USE)}
        for step in (("idle", "job"), samples.WAIT, samples.LOCK):
            row = {"job": (samples.ENTER, samples.LOCK, samples.TOUCH, samples.UNLOCK, samples.LEAVE)}
            book = self.body(works=row, puller=(samples.DOWN, step))
            self.check(book, (self.work(False, 2), 5), (self.work(False, 2, 1), NO_WAY), (self.work(False, 3, 1), 3))
        book = self.body(works=works, puller=(samples.DOWN, ("idle", "job"), ("forget", "job")))
        self.check(book, (self.work(False, 0), 5), (self.work(True, 0), 5), (self.work(False, 0, 1), NO_WAY),
                   (self.work(True, None, 1), 2), (self.work(True, None, 2), 1), (self.work(True, None, 3), NO_WAY))

    def test_works_at_locks(self):
        book = self.body(works={"job": (samples.LOCK, samples.UNLOCK)}, puller=(samples.LOCK, samples.OUT))
        self.check(book, (self.work(False, 0), 4), (self.work(False, 0, 1), NO_WAY), (self.work(False, 1), 3))

    def test_works_that_start_themselves(self):
        book = self.body(works={"job": (("start", "job"),)}, puller=(("bar", "job"),))
        self.check(book, (self.work(False, 0), 2), (self.work(True, 0), 4), (self.work(True, None), 3),
                   (self.work(False, None), 1), (self.work(False, 0, 1), 1))
        self.check(book.changed(puller=()), (self.work(False, 0), NO_WAY), (self.work(False, None), 0))
        self.check(book.changed(puller=(("forget", "job"),)), (self.work(False, 0), 2), (self.work(True, 0), 2))
        self.check(book.changed(puller=(("forget", "job"),)), (self.work(False, 0, 1), NO_WAY))


class Quickly(unittest.TestCase):
    def come_to(self, parts, state):
        search = Search(samples.made(parts).engine, state)
        search.way()
        return len(search)

    def test_eight_hands(self):
        works = {"job": (samples.TOUCH,)}
        puller = (samples.MARK,) + samples.NAMED["a work that is barred"][0][2]
        for place in (0, 1, 2, 4, 5):
            for job in ((False, None), (True, None), (False, 0), (True, 0)):
                self.assertLess(self.come_to((SLOW, works, puller), (8, (place,) * 8, (job,), 0, False)), 400)

    def test_none_seen_at_once(self):
        works = {"job": (samples.TOUCH,)}
        puller = samples.NAMED["a work that is barred"][0][2]
        for state in ((8, (7,) * 8, (IDLE,), 5, False), (8, (4,) * 8, (PENDING,), 5, False)):
            self.assertEqual(self.come_to((SLOW, works, puller), state), 0)
        self.assertEqual(self.come_to((SLOW[:-1], {"job": (samples.USE,)}, (samples.EMPTY,)),
                                      (8, (5,) * 8, (IDLE,), 0, False)), 0)


if __name__ == "__main__":
    unittest.main()
