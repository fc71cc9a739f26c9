import unittest

import model
from making import Maker
from odd import NO_INTEGERS, ODD, not_within

from pulledout.books import Book
from pulledout.errors import Faulty, InvalidMove, InvalidNumber, InvalidState
from pulledout.moves import (after, count, fault_of, first_state, is_freed, is_kept, is_move, is_state, is_stuck,
                             moves)

LOOK, HOLD, TRY, LET = ("look",), ("hold",), ("try",), ("let",)
ENTER, LEAVE, TOUCH, USE = ("enter",), ("leave",), ("touch",), ("use",)
LOCK, UNLOCK = ("lock",), ("unlock",)
OUT, WAIT, EMPTY, DOWN, MARK = ("out",), ("wait",), ("empty",), ("down",), ("mark", "gone")
COME, STEP = ("come",), ("step",)
BOTH = {"job": (ENTER, TOUCH, LEAVE), "tick": (LOCK, USE, UNLOCK)}
IDLE = (False, None)

EXAMPLE = Book((LOOK, TRY, ENTER, ("ask", "gone", (LEAVE, LET)), TOUCH, LEAVE, LET),
               puller=(OUT, MARK, WAIT, DOWN, LET))
# Places: 0 look, 1 hold, 2 enter, 3 lock, 4 unlock, 5 leave, 6 let. Two works.
BUSY = Book((LOOK, HOLD, ENTER, LOCK, UNLOCK, LEAVE, LET), BOTH, puller=(OUT, LOCK, DOWN, UNLOCK))


def go(place):
    return ("go", place)


def run(name):
    return ("run", name)


def book_of(*body, works=None, puller=(), opening=(LOOK, HOLD)):
    return Book(opening + body, works, puller=puller)


def hand_at(place, done=0, jobs=(), came=1, leaked=False):
    return (came, (place,), jobs, done, leaked)


def nobody(done=0, jobs=(), came=1, leaked=False):
    return (came, (), jobs, done, leaked)


class Forms(unittest.TestCase):
    def test_moves(self):
        for value in (COME, STEP, ("begin", "job"), ("run", "abcdefgh"), ("begin", "a"), ("run", "come")):
            self.assertIs(is_move(value), True, value)
        for place in range(14):
            self.assertIs(is_move(("go", place)), True)
        self.assertIs(is_move(value=COME), True)

    def test_no_moves(self):
        for value in ODD + ("come", "step", ["come"], ("come", 0), ("come", "job"), ("step", None), ("go",), ("begin",),
                            ("run",), ("go", 0, 0), ("begin", "job", "job"), ("go", "job"), ("begin", 0), ("run", None),
                            ["go", 0], ("go", [0]), ("walk",), ("walk", 0), ("walk", "job"), (COME,), ("Come",),
                            (0, "go"), ("job", "begin"), (b"come",), ("out",), ("look",)):
            self.assertIs(is_move(value), False, value)
        for value in not_within(0, 13):
            self.assertIs(is_move(("go", value)), False, value)
        for value in ODD + (0, 1):
            self.assertIs(is_move(("begin", value)), False, value)
            self.assertIs(is_move(("run", value)), False, value)


class States(unittest.TestCase):
    def check(self, book, value, expected):
        self.assertIs(is_state(book, value), expected, value)
        told = (moves, is_freed, is_stuck, is_kept, count, lambda book, state: fault_of(book, state, COME),
                lambda book, state: after(book, state, STEP))
        if not expected:
            for function in told:
                with self.assertRaises(InvalidState) as caught:
                    function(book, value)
                self.assertIs(caught.exception.value, value)

    def test_first_states(self):
        self.assertEqual(first_state(EXAMPLE), (0, (), (), 0, False))
        self.assertEqual(first_state(book_of(works={"job": (USE,)})), (0, (), (IDLE,), 0, False))
        self.assertEqual(first_state(book=BUSY), (0, (), (IDLE, IDLE), 0, False))
        for book in (EXAMPLE, BUSY):
            self.check(book, first_state(book), True)

    def test_of_no_other_kind(self):
        for value in ODD + ((0, (), (), 0), (0, (), (), 0, False, None), [0, (), (), 0, False], "state", 0):
            self.check(EXAMPLE, value, False)
            self.check(BUSY, value, False)

    def test_numbers_that_came(self):
        for came in range(9):
            self.check(EXAMPLE, (came, (), (), 0, False), True)
        for came in not_within(0, 8):
            self.check(EXAMPLE, (came, (), (), 0, False), False)

    def test_numbers_of_done_steps(self):
        for done in range(6):
            self.check(EXAMPLE, nobody(done), True)
        for done in not_within(0, 5):
            self.check(EXAMPLE, nobody(done), False)
        self.check(book_of(), nobody(1), False)

    def test_hands(self):
        for places in ((0,), (8,), (0, 0), (0, 8), (3, 3, 3), tuple(range(8)), (5,) * 8):
            self.check(EXAMPLE, (8, places, (), 0, False), True)
            self.check(EXAMPLE, (len(places), places, (), 0, False), True)
            self.check(EXAMPLE, (len(places) - 1, places, (), 0, False), False)
            self.check(EXAMPLE, (8, list(places), (), 0, False), False)
        for places in ((9,), (0, 9), (1, 0), (0, 2, 1), (-1,), (-1, 0), (10 ** 20,)):
            self.check(EXAMPLE, (8, places, (), 0, False), False)
        for places in NO_INTEGERS:
            self.check(EXAMPLE, (8, (places,), (), 0, False), False)
            if not isinstance(places, tuple):
                self.check(EXAMPLE, (8, places, (), 0, False), False)
        self.check(EXAMPLE, (8, (0, True), (), 0, False), False)
        self.check(EXAMPLE, (8, (False, 1), (), 0, False), False)
        self.check(EXAMPLE, (8, (0,) * 9, (), 0, False), False)

    def test_leaked(self):
        for leaked in (True, False):
            self.check(EXAMPLE, (1, (), (), 0, leaked), True)
            self.check(EXAMPLE, (8, (0,) * 7, (), 0, leaked), True)
            self.check(EXAMPLE, (1, (0,), (), 0, leaked), not leaked)
            self.check(EXAMPLE, (0, (), (), 0, leaked), not leaked)
            self.check(EXAMPLE, (8, (0,) * 8, (), 0, leaked), not leaked)
        for leaked in ODD + (0, 1, "False"):
            if not isinstance(leaked, bool):
                self.check(EXAMPLE, (1, (), (), 0, leaked), False)

    def test_works(self):
        for job in ((False, None), (True, None), (True, 0), (False, 2)):
            self.check(BUSY, nobody(jobs=(job, IDLE)), True)
            self.check(BUSY, nobody(jobs=(IDLE, job)), True)
            self.check(BUSY, nobody(jobs=[job, IDLE]), False)
            self.check(BUSY, nobody(jobs=(list(job), IDLE)), False)
        for jobs in ((), (IDLE,), (IDLE,) * 3, None, (IDLE, None), (IDLE, ()), (IDLE, (False,)), (IDLE, (False, None, 0))):
            self.check(BUSY, nobody(jobs=jobs), False)
        self.check(EXAMPLE, nobody(jobs=(IDLE,)), False)
        for pending in ODD + (0, 1):
            if not isinstance(pending, bool):
                self.check(BUSY, nobody(jobs=((pending, None), IDLE)), False)
        for place in not_within(0, 2):
            if place is not None:
                self.check(BUSY, nobody(jobs=((False, place), IDLE)), False)
                self.check(BUSY, nobody(jobs=(IDLE, (True, place))), False)

    def test_works_by_their_own_ends(self):
        book = book_of(works={"a": (USE,), "b": (USE, USE, ("ask", "gone", (USE,)))})
        self.check(book, nobody(jobs=((False, 0), (False, 3))), True)
        self.check(book, nobody(jobs=((False, 1), (False, 0))), False)
        self.check(book, nobody(jobs=((False, 0), (False, 4))), False)

    def test_at_most_one_has_the_lock(self):
        for places, jobs, done, expected in (
                ((4,), (IDLE, IDLE), 0, True), ((3, 3), (IDLE, (False, 0)), 0, True),
                ((4, 4), (IDLE, IDLE), 0, False), ((3, 4), (IDLE, IDLE), 0, True),
                ((), (IDLE, (False, 1)), 0, True), ((), (IDLE, (False, 2)), 0, True),
                ((4,), (IDLE, (False, 1)), 0, False), ((4,), (IDLE, (False, 2)), 1, False),
                ((4,), (IDLE, IDLE), 1, True), ((4,), (IDLE, IDLE), 2, False), ((4,), (IDLE, IDLE), 3, False),
                ((4,), (IDLE, IDLE), 4, True), ((), (IDLE, (True, 1)), 2, False), ((), (IDLE, (True, 1)), 4, True),
                ((3, 5), (IDLE, (False, 0)), 3, True)):
            self.check(BUSY, (8, places, jobs, done, False), expected)
        two = book_of(works={"a": BOTH["tick"], "b": BOTH["tick"]})
        self.check(two, nobody(jobs=((False, 1), (False, 2))), False)
        self.check(two, nobody(jobs=((False, 1), (False, 0))), True)

    def test_made_by_chance(self):
        for seed in range(60):
            maker = Maker(seed)
            parts = maker.book(seed % 3)
            book = Book(parts[0], parts[1], puller=parts[2])
            for _ in range(10):
                state = maker.state(parts)
                self.check(book, state, True)
                for move in moves(book, state):
                    if fault_of(book, state, move) is None:
                        self.check(book, after(book, state, move), True)

    def test_by_name(self):
        self.assertIs(is_state(book=EXAMPLE, value=nobody()), True)
        state = nobody()
        for function in (is_freed, is_stuck, is_kept, count):
            self.assertEqual(function(book=EXAMPLE, state=state), function(EXAMPLE, state))


class Moving(unittest.TestCase):
    """Moves that are made: what is behind them, or the word of the fault."""

    def goes(self, book, state, move, behind):
        self.assertIn(move, moves(book, state))
        self.assertIsNone(fault_of(book, state, move))
        self.assertEqual(after(book, state, move), behind)

    def faults(self, book, state, move, word):
        self.assertIn(move, moves(book, state))
        self.assertEqual(fault_of(book, state, move), word)
        with self.assertRaises(Faulty) as caught:
            after(book, state, move)
        self.assertEqual((caught.exception.word, caught.exception.move), (word, move))

    def refuses(self, book, state, move):
        if is_move(move):
            self.assertNotIn(move, moves(book, state))
        for function in (fault_of, after):
            with self.assertRaises(InvalidMove) as caught:
                function(book, state, move)
            self.assertIs(caught.exception.move, move)


class Order(Moving):
    def test_example(self):
        state = after(EXAMPLE, after(EXAMPLE, first_state(EXAMPLE), COME), STEP)
        told = (state, moves(EXAMPLE, state, hands=1), after(EXAMPLE, state, go(0)))
        self.assertEqual(told, ((1, (0,), (), 1, False), [go(0), STEP], (1, (), (), 1, False)))

    def test_all_kinds_in_their_order(self):
        state = (5, (0, 2, 2, 6), ((True, None), (True, None)), 0, False)
        self.assertEqual(moves(BUSY, state), [COME, go(0), go(2), go(6), ("begin", "job"), ("begin", "tick"), STEP])
        state = (5, (0, 0, 1), ((True, 1), (False, 0)), 0, False)
        self.assertEqual(moves(BUSY, state), [COME, go(0), go(1), run("job"), run("tick"), STEP])
        state = (5, (), ((False, 1), (True, None)), 0, False)
        self.assertEqual(moves(BUSY, state), [COME, ("begin", "tick"), run("job"), STEP])
        state = (5, (), ((True, None), (True, 2)), 0, False)
        self.assertEqual(moves(BUSY, state), [COME, ("begin", "job"), run("tick"), STEP])

    def test_works_by_name_not_by_how_they_were_passed(self):
        for works in ({"b": (USE,), "a": (TOUCH,)}, {"a": (TOUCH,), "b": (USE,)}):
            book = book_of(works=works, puller=(DOWN,))
            self.assertEqual(moves(book, nobody(jobs=((True, None), (False, 0)))), [COME, ("begin", "a"), run("b"), STEP])
            self.faults(book, nobody(1, jobs=((False, 0), IDLE)), run("a"), "touched")

    def test_faults_are_possible_too(self):
        self.assertEqual(moves(EXAMPLE, (1, (6,), (), 4, False), hands=1), [go(6), STEP])
        self.faults(EXAMPLE, (1, (6,), (), 4, False), go(6), "touched")

    def test_new_lists(self):
        told = moves(EXAMPLE, nobody())
        told.clear()
        self.assertEqual(moves(EXAMPLE, nobody()), [COME, STEP])

    def test_numbers_of_hands(self):
        for came in range(9):
            for hands in range(9):
                expected = [COME, STEP] if came < hands else [STEP]
                self.assertEqual(moves(EXAMPLE, nobody(came=came), hands=hands), expected)
            self.assertEqual(moves(EXAMPLE, nobody(came=came)), [COME, STEP] if came < 8 else [STEP])
        self.assertEqual(moves(book=EXAMPLE, state=nobody(), hands=2), [COME, STEP])
        with self.assertRaises(TypeError):
            moves(EXAMPLE, nobody(), 2)

    def test_no_numbers_of_hands(self):
        for value in not_within(0, 8):
            with self.assertRaises(InvalidNumber) as caught:
                moves(EXAMPLE, nobody(), hands=value)
            self.assertIs(caught.exception.value, value)
            with self.assertRaises(InvalidState):
                moves(EXAMPLE, None, hands=value)

    def test_no_moves(self):
        state = (1, (1,), (IDLE, (False, 0)), 0, False)
        for value in ODD + ("come", ["come"], go(0), go(2), go(13), go(14), ("go", True), ["go", 1], ("begin", "job"),
                            ("begin", "tick"), run("job"), run("gone"), ("begin", "gone"), ("step", 0), ("walk",)):
            self.refuses(BUSY, state, value)
        self.refuses(EXAMPLE, hand_at(0), ("go", False))
        self.refuses(EXAMPLE, hand_at(1), ("go", True))
        self.refuses(EXAMPLE, nobody(5), STEP)

    def test_state_ahead_of_move(self):
        for function in (fault_of, after):
            with self.assertRaises(InvalidState) as caught:
                function(EXAMPLE, (True, (), (), 0, False), None)
            self.assertEqual(caught.exception.value, (True, (), (), 0, False))

    def test_by_name(self):
        self.assertIsNone(fault_of(book=EXAMPLE, state=nobody(), move=COME))
        self.assertEqual(after(move=COME, state=nobody(), book=EXAMPLE), (2, (0,), (), 0, False))


class Coming(Moving):
    def test_to_place_0(self):
        self.goes(EXAMPLE, nobody(came=0), COME, hand_at(0))
        self.goes(EXAMPLE, (3, (0, 5), (), 2, True), COME, (4, (0, 0, 5), (), 2, True))

    def test_eight_at_most(self):
        self.goes(EXAMPLE, nobody(came=7), COME, (8, (0,), (), 0, False))
        self.refuses(EXAMPLE, nobody(came=8), COME)


class Items(Moving):
    def test_look(self):
        self.goes(EXAMPLE, hand_at(0), go(0), hand_at(1))
        for done in (1, 3, 5):
            self.goes(EXAMPLE, hand_at(0, done), go(0), nobody(done))
        book = book_of(LET, puller=(LET, DOWN, MARK))
        self.goes(book, hand_at(0, 2), go(0), hand_at(1, 2))

    def test_look_that_has_the_lock(self):
        book = book_of(LET, opening=(LOCK, LOOK, HOLD, UNLOCK), puller=(OUT,))
        state = (2, (0, 1), (), 1, False)
        self.refuses(book, state, go(0))
        self.goes(book, state, go(1), (2, (0,), (), 1, False))
        self.goes(book, (2, (0,), (), 1, False), go(0), (2, (1,), (), 1, False))

    def test_hold(self):
        book = book_of(LET, puller=(LET,))
        self.goes(book, hand_at(1), go(1), hand_at(2))
        self.assertEqual((count(book, hand_at(1)), count(book, hand_at(2))), (1, 2))
        self.faults(book, hand_at(1, 1), go(1), "used")
        self.goes(book, (2, (1, 2), (), 1, False), go(1), (2, (2, 2), (), 1, False))
        self.goes(book, (2, (1,), (), 1, True), go(1), (2, (2,), (), 1, True))

    def test_try(self):
        book = book_of(LET, opening=(LOOK, TRY), puller=(LET,))
        self.goes(book, hand_at(1), go(1), hand_at(2))
        self.goes(book, hand_at(1, 1), go(1), nobody(1))
        self.goes(book, (2, (1, 2), (), 1, False), go(1), (2, (2, 2), (), 1, False))
        self.goes(book, (2, (1, 1), (), 1, False), go(1), (2, (1,), (), 1, False))

    def test_try_that_has_the_lock(self):
        book = book_of(LET, opening=(LOCK, LOOK, TRY, UNLOCK), puller=(LET,))
        self.goes(book, (2, (0, 2), (), 1, False), go(2), (2, (0,), (), 1, False))
        self.goes(book, (2, (0, 2), (), 0, False), go(2), (2, (0, 3), (), 0, False))

    def test_let(self):
        book = book_of(LET, puller=(LET,))
        self.goes(book, hand_at(2), go(2), nobody())
        self.goes(book, hand_at(2, 1), go(2), nobody(1))
        self.assertEqual((count(book, nobody()), count(book, nobody(1))), (1, 0))

    def test_leaks(self):
        for opening in ((LOOK, HOLD), (LOOK, TRY)):
            self.goes(book_of(opening=opening), hand_at(1), go(1), nobody(leaked=True))
        for opening in model.OPENINGS[2:]:
            book = book_of(opening=tuple((word,) for word in opening))
            self.goes(book, hand_at(3), go(3), nobody(leaked=True))
        book = book_of(USE, puller=(LET,))
        self.goes(book, hand_at(2, 1), go(2), nobody(1, leaked=True))
        self.goes(book, (3, (2,), (), 0, True), go(2), (3, (), (), 0, True))
        self.assertEqual([count(book, (8, (), (), done, True)) for done in (0, 1)], [2, 1])

    def test_leaks_at_asks(self):
        book = book_of(("ask", "gone", ()), LET, puller=(MARK,))
        self.goes(book, hand_at(2), go(2), hand_at(3))
        self.goes(book, hand_at(2, 1), go(2), nobody(1, leaked=True))
        book = book_of(("ask", "gone", (USE, LET)), puller=(MARK,))
        self.goes(book, hand_at(2), go(2), nobody(leaked=True))
        self.goes(book, hand_at(2, 1), go(2), hand_at(3, 1))
        self.goes(book, hand_at(4, 1), go(4), nobody(1))

    def test_leaks_at_the_end_of_a_way_out(self):
        book = book_of(("ask", "gone", (USE,)), LET)
        self.goes(book, hand_at(3), go(3), nobody(leaked=True))
        self.goes(book, hand_at(4), go(4), nobody())

    def test_turned_away_leaks_nothing(self):
        self.goes(book_of(puller=(OUT,)), hand_at(0, 1), go(0), nobody(1))
        self.goes(book_of(opening=(LOOK, TRY), puller=(LET,)), hand_at(1, 1), go(1), nobody(1))

    def test_ask(self):
        book = book_of(("ask", "gone", (USE, LET)), ("ask", "dead", ()), LET, puller=(("mark", "dead"), MARK))
        self.goes(book, hand_at(2), go(2), hand_at(5))
        self.goes(book, hand_at(2, 1), go(2), hand_at(5, 1))
        self.goes(book, hand_at(2, 2), go(2), hand_at(3, 2))
        self.goes(book, hand_at(5), go(5), hand_at(6))
        self.goes(book, hand_at(5, 1), go(5), nobody(1, leaked=True))

    def test_ask_for_a_mark_that_is_not_made(self):
        book = book_of(("ask", "gone", (LET,)), LET, puller=(("mark", "dead"),))
        self.goes(book, hand_at(2, 1), go(2), hand_at(4, 1))

    def test_enter_touch_use_leave(self):
        book = book_of(ENTER, TOUCH, USE, LEAVE, LET, puller=(LET, DOWN))
        for place in (2, 3, 4, 5):
            for done in (0, 1):
                self.goes(book, hand_at(place, done), go(place), hand_at(place + 1, done))
        self.faults(book, hand_at(3, 2), go(3), "touched")
        for place in (2, 4, 5):
            self.goes(book, hand_at(place, 2), go(place), hand_at(place + 1, 2))

    def test_lock(self):
        none, has = (IDLE, IDLE), (IDLE, (False, 1))
        self.goes(BUSY, hand_at(3, jobs=none), go(3), hand_at(4, jobs=none))
        self.goes(BUSY, hand_at(3, 4, jobs=none), go(3), hand_at(4, 4, jobs=none))
        for state in ((2, (3, 4), none, 0, False), hand_at(3, jobs=has), hand_at(3, 2, jobs=none), hand_at(3, 3, none)):
            self.refuses(BUSY, state, go(3))
        self.goes(BUSY, (2, (3, 4), none, 0, False), go(4), (2, (3, 5), none, 0, False))

    def test_start(self):
        works = {"job": (USE,), "tick": (USE,)}
        book = book_of(("start", "tick"), LET, works=works, puller=(("bar", "job"), ("bar", "tick")))
        for done in (0, 1):
            self.goes(book, hand_at(2, done, (IDLE, IDLE)), go(2), hand_at(3, done, (IDLE, (True, None))))
            self.goes(book, hand_at(2, done, (IDLE, (True, 0))), go(2), hand_at(3, done, (IDLE, (True, 0))))
            self.goes(book, hand_at(2, done, (IDLE, (False, 0))), go(2), hand_at(3, done, (IDLE, (True, 0))))
        self.goes(book, hand_at(2, 2, (IDLE, IDLE)), go(2), hand_at(3, 2, (IDLE, IDLE)))
        self.goes(book, hand_at(2, 2, (IDLE, (True, None))), go(2), hand_at(3, 2, (IDLE, (True, None))))

    def test_start_at_the_end(self):
        book = book_of(("start", "job"), works={"job": (USE,)})
        self.goes(book, hand_at(2, 0, (IDLE,)), go(2), nobody(0, ((True, None),), leaked=True))

    def test_hands_stay_rising(self):
        self.goes(EXAMPLE, (4, (0, 1, 2, 2), (), 0, False), go(0), (4, (1, 1, 2, 2), (), 0, False))
        self.goes(EXAMPLE, (3, (3, 4, 5), (), 0, False), go(3), (3, (4, 5, 6), (), 0, False))
        self.goes(EXAMPLE, (3, (3, 5, 7), (), 2, False), go(3), (3, (4, 5, 7), (), 2, False))
        self.goes(EXAMPLE, (3, (2, 8, 8), (), 0, False), go(8), (3, (2, 8), (), 0, False))


class Works(Moving):
    def at(self, job, done=0, leaked=False):
        return nobody(done, (job,), leaked=leaked)

    def test_begin(self):
        book = book_of(works={"job": (USE, USE)})
        self.goes(book, self.at((True, None)), ("begin", "job"), self.at((False, 0)))
        for job in ((True, 0), (False, 0), IDLE):
            self.refuses(book, self.at(job), ("begin", "job"))

    def test_begin_of_two(self):
        pending = (True, None)
        self.goes(BUSY, nobody(jobs=(pending, pending)), ("begin", "tick"), nobody(jobs=(pending, (False, 0))))
        self.goes(BUSY, nobody(jobs=(pending, pending)), ("begin", "job"), nobody(jobs=((False, 0), pending)))

    def test_run(self):
        book = book_of(works={"job": (ENTER, LEAVE)})
        for pending in (True, False):
            self.goes(book, self.at((pending, 0)), run("job"), self.at((pending, 1)))
            self.goes(book, self.at((pending, 1)), run("job"), self.at((pending, None)))
            self.refuses(book, self.at((pending, None)), run("job"))

    def test_run_leaks_nothing(self):
        book = book_of(works={"job": (USE,)})
        self.goes(book, self.at((False, 0)), run("job"), self.at(IDLE))
        self.goes(book, self.at((False, 0), leaked=True), run("job"), self.at(IDLE, leaked=True))

    def test_run_of_an_ask(self):
        book = book_of(works={"job": (("ask", "gone", (TOUCH,)), USE, ("ask", "gone", ()), USE)}, puller=(MARK,))
        self.goes(book, self.at((False, 0)), run("job"), self.at((False, 2)))
        self.goes(book, self.at((False, 0), 1), run("job"), self.at((False, 1), 1))
        self.goes(book, self.at((False, 1), 1), run("job"), self.at(IDLE, 1))
        self.goes(book, self.at((True, 3), 1), run("job"), self.at((True, None), 1))

    def test_run_of_a_lock(self):
        free = (IDLE, (False, 0))
        self.goes(BUSY, nobody(jobs=free), run("tick"), nobody(jobs=(IDLE, (False, 1))))
        self.refuses(BUSY, hand_at(4, jobs=free), run("tick"))
        self.refuses(BUSY, nobody(2, jobs=free), run("tick"))
        self.goes(BUSY, nobody(4, jobs=free), run("tick"), nobody(4, jobs=(IDLE, (False, 1))))

    def test_run_of_a_start(self):
        book = book_of(works={"job": (("start", "job"), ("start", "tick")), "tick": (USE,)},
                       puller=(("bar", "tick"), ("bar", "job")))
        for done in (0, 1):
            self.goes(book, nobody(done, ((False, 0), IDLE)), run("job"), nobody(done, ((True, 1), IDLE)))
            self.goes(book, nobody(done, ((True, 0), IDLE)), run("job"), nobody(done, ((True, 1), IDLE)))
        self.goes(book, nobody(2, ((False, 0), IDLE)), run("job"), nobody(2, ((False, 1), IDLE)))
        self.goes(book, nobody(0, ((True, 1), IDLE)), run("job"), nobody(0, ((True, None), (True, None))))
        self.goes(book, nobody(0, ((False, 1), (False, 0))), run("job"), nobody(0, (IDLE, (True, 0))))
        self.goes(book, nobody(1, ((False, 1), IDLE)), run("job"), nobody(1, (IDLE, IDLE)))

    def test_run_of_a_start_of_itself_at_the_end(self):
        book = book_of(works={"job": (("start", "job"),)})
        self.goes(book, self.at((False, 0)), run("job"), self.at((True, None)))

    def test_faults(self):
        book = book_of(works={"job": (TOUCH, USE, ENTER, LEAVE, LOCK, UNLOCK, ("ask", "gone", ()), ("start", "job"))},
                       puller=(LET, DOWN))
        for place, words in enumerate(((None, "touched"), ("used", "used"), ("used", "used"), ("used", "used"),
                                       (None, None), (None, None), ("used", "used"), ("used", "used"))):
            behind = place + 1 if place < 7 else None
            self.goes(book, self.at((False, place)), run("job"), self.at((place == 7, behind)))
            for done, word in ((1, words[0]), (2, words[1])):
                state = self.at((False, place), done)
                if word is None:
                    self.goes(book, state, run("job"), self.at((False, behind), done))
                else:
                    self.faults(book, state, run("job"), word)
        self.goes(book, self.at((False, 1), 1, leaked=True), run("job"), self.at((False, 2), 1, leaked=True))
        self.goes(book, self.at((True, None), 2), ("begin", "job"), self.at((False, 0), 2))


class Steps(Moving):
    def test_plain_ones(self):
        for step in (OUT, MARK, DOWN, LET, ("bar", "job")):
            book = book_of(ENTER, LOCK, UNLOCK, LEAVE, LET, works={"job": (ENTER, LEAVE)}, puller=(step,))
            for state in (nobody(0, (IDLE,)), hand_at(4, 0, ((True, 1),)), nobody(0, ((True, 0),), leaked=True)):
                self.goes(book, state, STEP, state[:3] + (1,) + state[4:])
            self.refuses(book, nobody(1, (IDLE,)), STEP)

    def test_no_steps(self):
        self.refuses(book_of(), nobody(), STEP)

    def test_wait(self):
        book = book_of(ENTER, LEAVE, LET, works={"job": (ENTER, LEAVE)}, puller=(WAIT,))
        for place in (0, 1, 2, 4):
            self.goes(book, hand_at(place, 0, (IDLE,)), STEP, hand_at(place, 1, (IDLE,)))
        self.refuses(book, hand_at(3, 0, (IDLE,)), STEP)
        self.refuses(book, (3, (0, 3, 4), (IDLE,), 0, False), STEP)
        self.refuses(book, nobody(0, ((False, 1),)), STEP)
        for job in ((True, None), (True, 0), (False, 0)):
            self.goes(book, nobody(0, (job,), leaked=True), STEP, nobody(1, (job,), leaked=True))

    def test_empty(self):
        book = book_of(ENTER, LEAVE, LET, works={"job": (ENTER, LEAVE)}, puller=(EMPTY,))
        for place in (0, 1):
            self.goes(book, hand_at(place, 0, (IDLE,)), STEP, hand_at(place, 1, (IDLE,)))
        for place in (2, 3, 4):
            self.refuses(book, hand_at(place, 0, (IDLE,)), STEP)
            self.refuses(book, (2, (0, place), (IDLE,), 0, False), STEP)
        self.refuses(book, nobody(0, (IDLE,), leaked=True), STEP)
        self.goes(book, nobody(0, ((True, 1),)), STEP, nobody(1, ((True, 1),)))

    def test_idle(self):
        for name, other in (("job", "tick"), ("tick", "job")):
            book = book_of(works={"job": (USE,), "tick": (USE,)}, puller=(("idle", name),))
            for job in (IDLE, (True, None), (False, 0), (True, 0)):
                mine = nobody(0, tuple(job if own == name else IDLE for own in ("job", "tick")))
                its = nobody(0, tuple(job if own == other else IDLE for own in ("job", "tick")))
                self.goes(book, its, STEP, its[:3] + (1, False))
                if job[1] is None:
                    self.goes(book, mine, STEP, mine[:3] + (1, False))
                else:
                    self.refuses(book, mine, STEP)

    def test_forget(self):
        for name in ("job", "tick"):
            book = book_of(works={"job": (USE,), "tick": (USE,)}, puller=(("forget", name),))
            for job in (IDLE, (True, None), (False, 0), (True, 0)):
                behind = tuple((False, job[1]) if own == name else job for own in ("job", "tick"))
                self.goes(book, nobody(0, (job, job)), STEP, nobody(1, behind))

    def test_lock(self):
        none, has = (IDLE, IDLE), (IDLE, (False, 2))
        self.goes(BUSY, nobody(1, none), STEP, nobody(2, none))
        self.goes(BUSY, hand_at(3, 1, (IDLE, (False, 0))), STEP, hand_at(3, 2, (IDLE, (False, 0))))
        self.refuses(BUSY, hand_at(4, 1, none), STEP)
        self.refuses(BUSY, nobody(1, has), STEP)
        self.goes(BUSY, nobody(3, none), STEP, nobody(4, none))

    def test_lock_again(self):
        book = book_of(LOCK, UNLOCK, LET, puller=(LOCK, UNLOCK, LOCK))
        self.goes(book, nobody(2), STEP, nobody(3))
        self.refuses(book, hand_at(3, 2), STEP)
        self.assertEqual([moves(book, hand_at(2, done), hands=1) for done in range(4)],
                         [[go(2), STEP], [STEP], [go(2), STEP], []])

    def test_faults(self):
        for step, is_one in ((OUT, False), (DOWN, False), (LOCK, False), (MARK, True), (WAIT, True), (EMPTY, True),
                             (("bar", "job"), True), (("forget", "job"), True), (("idle", "job"), True)):
            book = book_of(LET, works={"job": (USE,)}, puller=(LET, step))
            state = nobody(1, (IDLE,))
            if is_one:
                self.faults(book, state, STEP, "used")
            else:
                self.goes(book, state, STEP, nobody(2, (IDLE,)))
            if step != EMPTY:
                self.goes(book, hand_at(2, 1, (IDLE,)), STEP, hand_at(2, 2, (IDLE,)))
                self.goes(book, nobody(1, (IDLE,), leaked=True), STEP, nobody(2, (IDLE,), leaked=True))
        self.goes(book_of(puller=(LOCK, LET, UNLOCK)), nobody(2), STEP, nobody(3))

    def test_let_is_no_fault(self):
        self.goes(book_of(puller=(LET,)), nobody(), STEP, nobody(1))


class Freed(Moving):
    def test_count(self):
        book = book_of(USE, LET, puller=(OUT, LET))
        for state, told in ((nobody(), 1), (hand_at(0), 1), (hand_at(1), 1), (hand_at(2), 2), (hand_at(3), 2),
                            ((8, (0, 1, 2, 2, 3), (), 1, True), 5), (nobody(2), 0), (hand_at(1, 2), 0),
                            (hand_at(2, 2), 1), (nobody(2, leaked=True), 1), ((8, (2,) * 7, (), 2, True), 8),
                            ((8, (2,) * 8, (), 0, False), 9)):
            self.assertEqual(count(book, state), told, state)
            self.assertNotIsInstance(count(book, state), bool)
            self.assertIs(is_freed(book, state), told == 0, state)

    def test_never_without_let(self):
        book = book_of(LET, puller=(OUT,))
        self.assertEqual((count(book, nobody(1)), is_freed(book, nobody(1))), (1, False))

    def test_uses_of_hands(self):
        items = (("ask", "gone", (LET,)), USE, ("start", "job"), ENTER, LEAVE, LET)
        book = book_of(*items, works={"job": (USE,)}, puller=(LET,))
        for place in range(2, book.hands.size):
            self.assertIsNone(fault_of(book, hand_at(place, 1, (IDLE,)), go(place)))

    def test_openings_when_it_is_freed(self):
        for opening in model.OPENINGS:
            book = book_of(LET, opening=tuple((word,) for word in opening), puller=(LET,))
            for place, word in enumerate(opening):
                state = hand_at(place, 1)
                if count(book, state) == 0:
                    self.assertEqual(fault_of(book, state, go(place)), "used" if word == "hold" else None)


class Stuck(unittest.TestCase):
    def check(self, book, state, expected):
        self.assertIs(is_stuck(book, state), expected, state)

    def test_wait(self):
        book = book_of(LOCK, UNLOCK, ENTER, LOCK, UNLOCK, LEAVE, LET, works={"job": (LOCK, ENTER, UNLOCK, LOCK, LEAVE, UNLOCK)},
                       puller=(LOCK, WAIT, UNLOCK, WAIT))
        for place in range(book.hands.size):
            if not book.hands.is_locked(place):
                self.check(book, hand_at(place, 1, (IDLE,)), place == 5)
                self.check(book, (3, (0, place), (IDLE,), 1, False) if place else hand_at(0, 1, (IDLE,)), place == 5)
                for done in (0, 2, 3, 4):
                    self.check(book, hand_at(place, done, (IDLE,)), False)
        for place in (0, 3):
            self.check(book, nobody(1, ((False, place),)), place == 3)
            self.check(book, nobody(3, ((False, place),)), False)

    def test_empty(self):
        book = book_of(LOCK, UNLOCK, LET, opening=(LOCK, LOOK, UNLOCK, HOLD), works={"job": (LOCK, UNLOCK)},
                       puller=(LOCK, EMPTY, UNLOCK, EMPTY))
        for place in (0, 3, 4, 6):
            self.check(book, hand_at(place, 1, (IDLE,)), place == 4)
            self.check(book, hand_at(place, 3, (IDLE,)), False)
        self.check(book, nobody(1, ((False, 0),)), False)

    def test_empty_behind_a_leak(self):
        book = book_of(puller=(OUT, EMPTY, WAIT, LOCK, EMPTY))
        for done in range(6):
            self.check(book, nobody(done, leaked=True), done in (1, 4))
            self.check(book, nobody(done), False)

    def test_idle(self):
        works = {"job": (LOCK, UNLOCK), "tick": (LOCK, UNLOCK)}
        for name, stuck in (("job", (True, False)), ("tick", (False, True))):
            book = book_of(LOCK, UNLOCK, LET, works=works, puller=(LOCK, ("idle", name), UNLOCK, ("idle", name)))
            at_lock = (False, 0)
            self.check(book, nobody(1, (at_lock, IDLE)), stuck[0])
            self.check(book, nobody(1, (IDLE, at_lock)), stuck[1])
            self.check(book, nobody(1, (at_lock, at_lock)), True)
            self.check(book, nobody(1, ((True, None), (True, None))), False)
            self.check(book, hand_at(2, 1, (IDLE, IDLE)), False)
            self.check(book, nobody(3, (at_lock, at_lock)), False)

    def test_idle_of_one_that_runs_on(self):
        book = book_of(works={"job": (USE, LOCK, UNLOCK)}, puller=(LOCK, ("idle", "job")))
        self.check(book, nobody(1, ((False, 0),)), False)
        self.check(book, nobody(1, ((False, 1),)), True)

    def test_at_the_end(self):
        book = book_of(LOCK, UNLOCK, LET, works={"job": (LOCK, UNLOCK)}, puller=(OUT, LOCK))
        self.check(book, hand_at(2, 2, (IDLE,)), True)
        self.check(book, nobody(2, ((False, 0),)), True)
        for place in (0, 1, 4):
            self.check(book, hand_at(place, 2, (IDLE,)), False)
        self.check(book, nobody(2, ((True, None),)), False)
        self.check(book, hand_at(2, 1, ((False, 0),)), False)
        given = book.changed(puller=(LOCK, UNLOCK))
        self.check(given, hand_at(2, 2, ((False, 0),)), False)

    def test_other_steps_with_the_lock(self):
        for step in (OUT, MARK, DOWN, LET, UNLOCK, ("bar", "job"), ("forget", "job")):
            book = book_of(ENTER, LOCK, UNLOCK, LEAVE, LET, works={"job": (ENTER, LOCK, UNLOCK, LEAVE)}, puller=(LOCK, step))
            self.check(book, hand_at(3, 1, ((False, 1),)), False)

    def test_runs_go_on(self):
        book = book_of(LOCK, UNLOCK, LET, puller=(LOCK,))
        state = (2, (0, 2), (), 1, False)
        self.check(book, state, True)
        self.assertEqual(moves(book, state), [COME, go(0)])
        self.assertEqual(after(book, state, go(0)), (2, (1, 2), (), 1, False))


class Kept(unittest.TestCase):
    def test_at_the_end_alone(self):
        book = book_of(LET, works={"job": (USE,)}, puller=(OUT, DOWN))
        for done in range(3):
            self.assertIs(is_kept(book, nobody(done, (IDLE,))), done == 2)
            self.assertIs(is_kept(book, hand_at(0, done, (IDLE,))), False)
        self.assertIs(is_kept(book, nobody(2, ((True, 0),))), True)

    def test_freed(self):
        book = book_of(LET, puller=(LET,))
        self.assertIs(is_kept(book, nobody(1)), False)
        self.assertIs(is_kept(book, nobody(1, leaked=True)), True)
        self.assertIs(is_kept(book, hand_at(1, 1)), False)
        self.assertIs(is_kept(book, (2, (0,), (), 1, True)), False)

    def test_no_steps(self):
        self.assertIs(is_kept(book_of(), first_state(book_of())), True)


class AgainstTheModel(unittest.TestCase):
    def test_states_made_by_chance(self):
        words = {}
        for seed in range(250):
            maker = Maker(seed)
            parts = maker.book(seed % 3)
            book = Book(parts[0], parts[1], puller=parts[2])
            self.assertEqual(first_state(book), model.first_state(parts))
            for _ in range(12):
                state = maker.state(parts)
                told = (count(book, state), is_freed(book, state), is_stuck(book, state), is_kept(book, state))
                self.assertEqual(told, (model.count(parts, state), model.is_freed(parts, state),
                                        model.is_stuck(parts, state), model.is_kept(parts, state)), (parts, state))
                most = maker.chance.randrange(9)
                self.assertEqual(moves(book, state, hands=most), model.moves(parts, state, most), (parts, state))
                for move in moves(book, state):
                    word = model.fault_of(parts, state, move)
                    words[word] = words.get(word, 0) + 1
                    self.assertEqual(fault_of(book, state, move), word, (parts, state, move))
                    if word is None:
                        self.assertEqual(after(book, state, move), model.after(parts, state, move), (parts, state, move))
        self.assertGreater(min(words["touched"], words["used"]), 50)

    def test_results_are_equal_each_time(self):
        maker = Maker(3)
        parts = maker.book(2)
        book = Book(parts[0], parts[1], puller=parts[2])
        for _ in range(10):
            state = maker.state(parts)
            self.assertEqual(moves(book, state), moves(Book(parts[0], parts[1], puller=parts[2]), state))


if __name__ == "__main__":
    unittest.main()
