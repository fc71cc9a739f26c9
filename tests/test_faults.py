import inspect
import unittest

import model
import samples
from making import Maker
from odd import ODD, not_within

from pulledout.closed import closed_list
from pulledout.errors import InvalidNumber, InvalidState, LimitExceeded, NotRight, UnknownName
from pulledout.faults import faults, fewest, is_right, is_shown, meetings, require_right, way_out
from pulledout.moves import after, fault_of, is_freed, moves
from pulledout.runs import Run, play
from pulledout.tables import Table

WORDS = ("touched", "used", "stuck", "kept")
COME, STEP = ("come",), ("step",)
NO_WORDS = ODD + ("", "touch", "Touched", "touched ", "right", ("touched",), ["touched"], 0, 1, b"touched")


def go(place):
    return ("go", place)


def named(name):
    return samples.made(samples.NAMED[name][0])


class Examples(unittest.TestCase):
    def test_of_the_interface(self):
        book = named("sound")
        early = book.changed(puller=(("out",), ("wait",), ("mark", "gone"), ("down",), ("let",)))
        self.assertEqual((is_right(book), is_right(early)), (True, False))
        self.assertEqual((faults(book), list(faults(early))), ({}, ["touched"]))

    def test_named_books(self):
        for name, (_, words) in samples.NAMED.items():
            book = named(name)
            self.assertEqual(tuple(faults(book)), words, name)
            self.assertIs(is_right(book), not words, name)

    def test_by_name(self):
        book = named("waits too early")
        self.assertEqual(faults(book=book, limit=500), faults(book))
        self.assertIs(is_right(book=book, limit=500), False)
        self.assertEqual(fewest(book=book, word="touched", limit=500), fewest(book, "touched"))
        self.assertIs(is_shown(book=book, word="touched", value=faults(book)["touched"]), True)
        self.assertEqual(meetings(book=book, limit=500), meetings(book))
        self.assertEqual(way_out(book=book, state=(0, (), (), 0, False)), Run(*(STEP,) * 5))
        with self.assertRaises(NotRight):
            require_right(book=book, limit=500)
        for function in (faults, is_right, require_right, meetings, closed_list):
            with self.assertRaises(TypeError):
                function(book, 500)
        with self.assertRaises(TypeError):
            fewest(book, "touched", 500)


class Searched(unittest.TestCase):
    """Against a search of the model."""

    @classmethod
    def setUpClass(cls):
        cls.books = samples.samples(80, largest=150)
        cls.words = [[model.explore(parts, hands)[1] for hands in (0, 1, 2)] for parts, _ in cls.books]

    def test_faults(self):
        for (parts, book), words in zip(self.books, self.words):
            told = faults(book)
            self.assertEqual(list(told), [word for word in WORDS if word in words[2]])
            for word, run in told.items():
                self.assertEqual(len(run), words[2][word], (parts, word))
                self.assertIs(is_shown(book, word, run), True)

    def test_is_right(self):
        for (parts, book), words in zip(self.books, self.words):
            self.assertIs(is_right(book), not words[1], parts)
            self.assertIs(is_right(book), not words[2], parts)

    def test_require_right(self):
        for (parts, book), words in zip(self.books, self.words):
            if not words[1]:
                self.assertIsNone(require_right(book))
                continue
            with self.assertRaises(NotRight) as caught:
                require_right(book)
            self.assertIn(caught.exception.word, WORDS)
            self.assertLessEqual(caught.exception.run.hands, 1)
            self.assertIs(is_shown(book, caught.exception.word, caught.exception.run), True)

    def test_fewest(self):
        seen = {}
        for (parts, book), words in zip(self.books, self.words):
            for word in WORDS:
                hands = [many for many in (0, 1, 2) if word in words[many]]
                told = fewest(book, word)
                seen[min(hands, default=None)] = seen.get(min(hands, default=None), 0) + 1
                if not hands:
                    self.assertIsNone(told)
                    continue
                self.assertIsInstance(told, tuple)
                self.assertEqual((told[0], len(told[1]), told[1].hands), (hands[0], words[hands[0]][word], hands[0]))
                self.assertIs(is_shown(book, word, told[1]), True)
        self.assertGreater(min(seen[None], seen[0], seen[1]), 10)

    def test_three_hands_bring_about_nothing_more(self):
        for (parts, book), words in list(zip(self.books, self.words))[:40]:
            told = Table(book, hands=3, limit=100000).faults()
            self.assertEqual({word: len(run) for word, run in told.items()}, words[2])

    def test_meetings(self):
        for parts, book in self.books:
            states = model.explore(parts, 2)[0]
            told = meetings(book)
            self.assertEqual(list(told), list(range(model.end_of(parts[0]))))
            for place, beside in told.items():
                self.assertIsInstance(beside, tuple)
                self.assertEqual(list(beside), sorted({state[3] for state in states if place in state[1]}))


class Fewest(unittest.TestCase):
    def check(self, name, word, hands, length):
        told = fewest(named(name), word)
        self.assertEqual((told[0], told[1].hands, len(told[1])), (hands, hands, length))
        self.assertIs(is_shown(named(name), word, told[1]), True)

    def test_none(self):
        self.check("does nothing", "kept", 0, 0)
        self.check("uses what is freed", "used", 0, 2)
        self.check("holds for the puller", "used", 0, 4)

    def test_one(self):
        self.check("bare hold", "used", 1, 5)
        self.check("waits too early", "touched", 1, 10)

    def test_two(self):
        self.check("stuck by two", "stuck", 2, 9)

    def test_fewer_hands_by_a_longer_run(self):
        for name, word, hands, length, sooner, shorter in (("stuck sooner by two", "stuck", 1, 10, 2, 9),
                                                           ("used sooner by one", "used", 0, 6, 1, 4)):
            self.check(name, word, hands, length)
            run = faults(named(name))[word]
            self.assertEqual((run.hands, len(run)), (sooner, shorter))

    def test_none_at_all(self):
        for word in WORDS:
            self.assertIsNone(fewest(named("sound"), word))
        self.assertIsNone(fewest(named("waits too early"), "kept"))


class Shown(unittest.TestCase):
    def check(self, book, value, words):
        for word in WORDS:
            self.assertIs(is_shown(book, word, value), word in words, (word, value))

    def test_touched(self):
        book = named("waits too early")
        moves = faults(book)["touched"].listed()
        self.check(book, Run.of(moves), ["touched"])
        for bent in (moves[:-1], moves + [STEP], moves + [moves[-1]], moves[1:], [STEP] + moves, moves[:-1] + [STEP],
                     moves[:3] + moves[4:], [COME] + moves[1:] + [COME], moves[::-1], [], moves[:2]):
            self.check(book, Run.of(bent), [])
        self.check(book, Run.of([COME] + moves), ["touched"])
        self.check(book, Run.of([COME] * 7 + moves), ["touched"])
        self.check(book, Run.of([COME] * 8 + moves), [])
        for value in (moves, tuple(moves), None, "touched", True, [Run.of(moves)]) + ODD:
            self.check(book, value, [])

    def test_used(self):
        book = named("uses what is freed")
        self.check(book, Run(STEP, STEP), ["used"])
        for bent in ((), (STEP,), (STEP, STEP, STEP), (STEP, STEP, COME), (COME, STEP)):
            self.check(book, Run(*bent), [])
        self.check(book, Run(COME, STEP, STEP), ["used"])
        self.check(book, [STEP, STEP], [])

    def test_word_by_word(self):
        book = named("all faults")
        told = faults(book)
        for word in WORDS:
            self.assertIn(word, [other for other in WORDS if is_shown(book, other, told[word])])
            if word in ("touched", "used"):
                self.check(book, told[word], [word])
                self.check(book, told[word] + [COME], [])

    def test_stuck(self):
        book = named("leaks")
        stuck = (COME, go(0), go(1), go(2))
        self.check(book, Run(*stuck), ["stuck"])
        self.check(book, Run(*stuck, COME), ["stuck"])
        self.check(book, Run(COME, *stuck), ["stuck"])
        for bent in (stuck[:-1], stuck[1:], stuck + (STEP,), (STEP,) + stuck, stuck + (go(2),)):
            self.check(book, Run(*bent), [])
        self.check(book, list(stuck), [])

    def test_kept(self):
        book = named("leaks")
        self.check(book, Run(STEP, STEP, COME, go(0)), [])
        self.check(book, Run(COME, go(0), STEP, go(1), STEP, go(2)), ["kept"])
        book = named("does nothing")
        self.check(book, Run(), ["kept"])
        self.check(book, Run(COME), [])
        self.check(book, Run(COME, go(0), go(1), go(2)), ["kept"])
        self.check(book, (), [])
        self.check(book, [], [])

    def test_stuck_and_kept_behind_a_fault(self):
        book = samples.made(((samples.LOOK, samples.HOLD, samples.TOUCH), {}, (samples.DOWN,)))
        self.check(book, Run(STEP), ["kept"])
        self.check(book, Run(STEP, COME, go(0), go(1)), [])
        self.check(book, Run(STEP, COME, go(0), go(1), go(2)), ["touched"])
        self.check(book, Run(STEP, COME, go(0), go(1), go(2), COME), [])

    def test_both(self):
        book = samples.made(((samples.LOOK, samples.HOLD, samples.LET), {"job": (samples.LOCK, samples.UNLOCK)},
                             (samples.LOCK,)))
        started = book.changed(hands=(samples.LOOK, samples.HOLD, ("start", "job"), samples.LET))
        run = Run(COME, go(0), go(1), go(2), go(3), STEP, ("begin", "job"))
        self.check(started, run, ["stuck", "kept"])
        self.check(book, run, [])

    def test_no_words(self):
        book = named("does nothing")
        for word in NO_WORDS:
            for value in (Run(), None, 0):
                with self.assertRaises(UnknownName) as caught:
                    is_shown(book, word, value)
                self.assertIs(caught.exception.name, word)
            for limit in (6000, 1, 0, None):
                with self.assertRaises(UnknownName) as caught:
                    fewest(book, word, limit=limit)
                self.assertIs(caught.exception.name, word)

    def test_made_by_chance(self):
        for parts, book in samples.samples(40, largest=150):
            state = model.first_state(parts)
            moves = []
            chance = Maker(7)
            for _ in range(25):
                words = [word for word, told in (("stuck", model.is_stuck), ("kept", model.is_kept)) if told(parts, state)]
                self.check(book, Run.of(moves), words)
                free = []
                for move in model.moves(parts, state, 2):
                    word = model.fault_of(parts, state, move)
                    if word is None:
                        free.append(move)
                    else:
                        self.check(book, Run.of(moves) + [move], [word])
                if not free:
                    break
                moves.append(chance.one_of(free))
                state = model.after(parts, state, moves[-1])


class Limits(unittest.TestCase):
    def many(self, name, hands):
        return len(model.explore(samples.NAMED[name][0], hands)[0])

    def exceeds(self, function, limit):
        with self.assertRaises(LimitExceeded) as caught:
            function(limit)
        self.assertEqual(caught.exception.limit, limit)

    def test_tables_of_two_hands(self):
        for name in samples.NAMED:
            book = named(name)
            many = self.many(name, 2)
            for function in (faults, meetings):
                self.assertEqual(function(book, limit=many), function(book))
                self.exceeds(lambda limit: function(book, limit=limit), many - 1)
                self.exceeds(lambda limit: function(book, limit=limit), 1)

    def test_tables_of_one_hand(self):
        for name, (_, words) in samples.NAMED.items():
            book = named(name)
            many = self.many(name, 1)
            for function in (is_right, closed_list):
                self.assertEqual(function(book, limit=many), function(book))
                self.exceeds(lambda limit: function(book, limit=limit), many - 1)
            self.exceeds(lambda limit: require_right(book, limit=limit), many - 1)
            if words:
                with self.assertRaises(NotRight):
                    require_right(book, limit=many)
            else:
                require_right(book, limit=many)

    def test_tables_of_none_one_and_two_hands(self):
        for name, (_, words) in samples.NAMED.items():
            book = named(name)
            for word in WORDS:
                told = fewest(book, word)
                last = 2 if told is None else told[0]
                many = self.many(name, last)
                self.assertEqual(fewest(book, word, limit=many), told)
                if many > 1:
                    self.exceeds(lambda limit: fewest(book, word, limit=limit), many - 1)

    def test_no_limits(self):
        for name in ("sound", "waits too early", "does nothing"):
            book = named(name)
            for function in (faults, is_right, require_right, meetings, closed_list,
                             lambda book, limit: fewest(book, "kept", limit=limit)):
                for value in not_within(1, 100000):
                    with self.assertRaises(InvalidNumber) as caught:
                        function(book, limit=value)
                    self.assertIs(caught.exception.value, value)

    def test_6000_if_nothing_is_told(self):
        for function in (faults, is_right, fewest, require_right, meetings, closed_list):
            self.assertEqual(inspect.signature(function).parameters["limit"].default, 6000)


class New(unittest.TestCase):
    def test_dicts(self):
        book = named("all faults")
        for function in (faults, meetings):
            told = function(book)
            told.clear()
            self.assertNotEqual(function(book), {})
            self.assertEqual(function(book), function(named("all faults")))


class WaysOut(unittest.TestCase):
    def check(self, book, state, length):
        run = way_out(book, state)
        if length is None:
            self.assertIsNone(run, state)
            return
        self.assertIsInstance(run, Run)
        self.assertEqual((len(run), run.hands), (length, 0), state)
        for move in run:
            self.assertIn(move, moves(book, state, hands=0))
            self.assertIsNone(fault_of(book, state, move))
            state = after(book, state, move)
        self.assertEqual((state[1], state[3]), ((), len(book.puller)))
        self.assertEqual(set(state[2]) - {(False, None)}, set())

    def test_near_the_beginning(self):
        book = named("sound")
        self.check(book, (0, (), (), 0, False), 5)
        self.check(book, (1, (0,), (), 0, False), 6)
        self.check(book, (1, (2,), (), 0, False), 9)
        self.check(book, (2, (0, 2), (), 0, False), 10)
        self.check(book, (8, (2,) * 8, (), 0, False), 37)

    def test_near_the_end(self):
        book = named("sound")
        self.assertEqual(way_out(book, (1, (), (), 5, False)), Run())
        self.check(book, (1, (), (), 4, False), 1)
        self.check(book, (1, (8,), (), 5, False), 1)
        self.check(book, (1, (1,), (), 5, False), 1)
        self.check(book, (8, (), (), 5, True), 0)

    def test_states_that_runs_never_lead_to(self):
        book = named("sound")
        self.check(book, (1, (3,), (), 5, False), 3)
        self.check(book, (1, (4,), (), 0, False), 7)
        self.check(book, (1, (), (), 0, True), 5)

    def test_where_there_is_none(self):
        book = named("sound")
        self.check(book, (1, (6,), (), 4, False), None)
        self.check(book, (2, (2, 6), (), 5, False), None)
        leaks = named("leaks")
        for state in ((1, (), (), 0, True), (1, (2,), (), 0, False), (8, (0, 0, 0, 0, 0, 0, 2), (), 0, False)):
            self.check(leaks, state, None)
        self.check(leaks, (1, (), (), 1, True), 1)
        self.check(named("keeps the lock"), (1, (0,), (), 4, False), None)
        self.check(named("uses what is freed"), (0, (), (), 0, False), None)
        self.check(named("uses what is freed"), (1, (2,), (), 0, False), 3)
        self.check(named("uses what is freed"), (1, (2,), (), 1, False), 2)
        self.check(named("uses what is freed"), (8, (0,) * 8, (), 1, False), None)

    def test_works(self):
        book = named("a work that is barred")
        idle = (False, None)
        self.check(book, (0, (), (idle,), 0, False), 6)
        self.check(book, (0, (), ((True, None),), 0, False), 6)
        self.check(book, (0, (), ((True, None),), 3, False), 5)
        self.check(book, (0, (), ((True, 0),), 0, False), 7)
        self.check(book, (0, (), ((True, 0),), 3, False), 6)
        self.check(book, (0, (), ((False, 0),), 6, False), None)
        self.check(book, (0, (), ((True, None),), 6, False), None)
        self.check(book, (1, (2,), (idle,), 0, False), 8)

    def test_works_that_start_themselves(self):
        body = (samples.LOOK, samples.TRY, samples.LET)
        book = samples.made((body, {"job": (("start", "job"),)}, (("bar", "job"),)))
        self.check(book, (0, (), ((True, None),), 0, False), 3)
        self.check(book.changed(puller=()), (0, (), ((True, None),), 0, False), None)
        self.check(book.changed(puller=(("forget", "job"),)), (0, (), ((True, None),), 0, False), 1)
        self.check(book.changed(puller=(("forget", "job"),)), (0, (), ((False, 0),), 0, False), 2)
        two = samples.made((body, {"job": (("start", "tick"),), "tick": (("start", "job"),)}, (("bar", "tick"),)))
        self.check(two, (0, (), ((True, None), (False, None)), 0, False), 3)
        self.check(two.changed(puller=()), (0, (), ((True, None), (False, None)), 0, False), None)

    def test_eight_hands(self):
        parts = samples.NAMED["a work that is barred"][0]
        hands = (samples.LOOK, samples.TRY, ("ask", "gone", (samples.LET,)), ("start", "job"), samples.USE, samples.ENTER,
                 samples.TOUCH, samples.LEAVE, samples.USE, samples.LET)
        book = samples.made((hands, parts[1], (("mark", "gone"),) + parts[2]))
        self.check(book, (8, (0,) * 8, ((False, None),), 0, False), 15)
        self.check(book, (8, (1,) * 8, ((True, 0),), 0, False), 16)
        self.check(book, (8, (2,) * 8, ((True, None),), 0, False), 23)
        self.check(book, (8, (4, 5, 6, 7, 8, 9, 10), ((False, 0),), 7, True), None)
        self.check(book, (8, (4, 6, 8, 10), ((False, 0),), 4, True), 20)

    def test_against_a_search(self):
        told = {}
        for parts, book in samples.samples(50, largest=150):
            maker = Maker(11)
            states = list(model.explore(parts, 1)[0])
            some = [maker.one_of(states) for _ in range(3)]
            while len(some) < 6:
                state = maker.state(parts)
                if len(state[1]) < 3:
                    some.append(state)
            for state in some:
                length = model.out_length(parts, state)
                told[length is None] = told.get(length is None, 0) + 1
                self.check(book, state, length)
        self.assertGreater(min(told[True], told[False]), 50)

    def test_right_books_are_freed(self):
        for parts, book in samples.samples(150, largest=150):
            if is_right(book):
                for state in Table(book, hands=2).states():
                    run = way_out(book, state)
                    self.assertIsNotNone(run)
                    for move in run:
                        state = after(book, state, move)
                    self.assertIs(is_freed(book, state), True)

    def test_equal_calls(self):
        for name in samples.NAMED:
            for state in Table(named(name), hands=1).states()[::9]:
                self.assertEqual(way_out(named(name), state), way_out(named(name), state))

    def test_behind_a_run(self):
        book = named("sound")
        run = Run(COME, go(0), go(1), STEP, STEP)
        self.check(book, play(book, run), 7)
        play(book, run + way_out(book, play(book, run)))

    def test_no_states(self):
        for value in ODD + ((True, (), (), 0, False), (0, (), (), 0, 0), (0, [], (), 0, False), (1, (9,), (), 0, False),
                            (0, (0,), (), 0, False), (0, (), (), 6, False), (9, (), (), 0, False)):
            with self.assertRaises(InvalidState) as caught:
                way_out(named("sound"), value)
            self.assertIs(caught.exception.value, value)


if __name__ == "__main__":
    unittest.main()
