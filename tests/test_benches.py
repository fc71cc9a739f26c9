import unittest

import model
from making import Maker
from odd import ODD, not_within

from pulledout.benches import Bench
from pulledout.books import Book
from pulledout.errors import Faulty, InvalidMove, InvalidNumber, NothingToUndo
from pulledout.moves import first_state, is_freed, is_kept, is_stuck, moves
from pulledout.runs import Run, play

COME, STEP = ("come",), ("step",)
# The puller takes the device down and lets go without having waited, and waits then.
BOOK = Book((("look",), ("hold",), ("touch",), ("use",), ("let",)), {"job": (("touch",),)},
            puller=(("down",), ("let",), ("wait",)))
FIRST = (0, (), ((False, None),), 0, False)


def go(place):
    return ("go", place)


class Stop(Exception):
    pass


def told(bench):
    """All that can be asked of a bench."""
    return (bench.book, bench.state, bench.deeds.listed(), bench.freed, bench.kept, bench.most, bench.moves(),
            bench.faults(), bench.stuck(), len(bench))


class Making(unittest.TestCase):
    def test_at_first(self):
        bench = Bench(BOOK)
        self.assertIs(bench.book, BOOK)
        self.assertEqual((bench.state, bench.deeds, len(bench), bench.most), (FIRST, Run(), 0, 8))
        self.assertIsInstance(bench.deeds, Run)
        self.assertEqual((bench.moves(), bench.faults()), ([COME, STEP], []))
        self.assertEqual((bench.freed, bench.kept, bench.stuck()), (False, False, False))

    def test_most(self):
        for most in range(9):
            bench = Bench(book=BOOK, most=most)
            self.assertEqual(bench.most, most)
            self.assertEqual(bench.moves(), [COME, STEP] if most else [STEP])
        for value in not_within(0, 8):
            with self.assertRaises(InvalidNumber) as caught:
                Bench(BOOK, most=value)
            self.assertIs(caught.exception.value, value)
        with self.assertRaises(TypeError):
            Bench(BOOK, 3)

    def test_read_only(self):
        for name in ("book", "state", "deeds", "freed", "kept"):
            with self.assertRaises(AttributeError):
                setattr(Bench(BOOK), name, None)


class Moving(unittest.TestCase):
    def test_states_are_returned(self):
        bench = Bench(BOOK)
        for many, (move, state) in enumerate(((COME, (1, (0,), ((False, None),), 0, False)),
                                              (go(0), (1, (1,), ((False, None),), 0, False)),
                                              (STEP, (1, (1,), ((False, None),), 1, False)),
                                              (STEP, (1, (1,), ((False, None),), 2, False)))):
            self.assertEqual(bench(move), state)
            self.assertEqual((bench.state, len(bench)), (state, many + 1))
        self.assertEqual(bench.deeds, Run(COME, go(0), STEP, STEP))
        self.assertEqual((bench.freed, bench.kept), (True, False))

    def test_by_name(self):
        self.assertEqual(Bench(BOOK)(move=COME), (1, (0,), ((False, None),), 0, False))

    def test_not_possible(self):
        bench = Bench(BOOK)
        bench(COME)
        for value in ODD + ("come", ["come"], go(1), go(13), go(14), ("go", False), ["go", 0], ("begin", "job"),
                            ("run", "job"), ("begin", "gone"), ("step", 0)):
            before = told(bench)
            with self.assertRaises(InvalidMove) as caught:
                bench(value)
            self.assertIs(caught.exception.move, value)
            self.assertEqual(told(bench), before)

    def test_bools_are_no_places(self):
        bench = Bench(BOOK)
        bench(COME)
        bench(go(0))
        with self.assertRaises(InvalidMove):
            bench(("go", True))
        self.assertEqual(bench(go(1)), (1, (2,), ((False, None),), 0, False))

    def test_more_than_are_let_come(self):
        for most in range(9):
            bench = Bench(BOOK, most=most)
            for _ in range(most):
                bench(COME)
            with self.assertRaises(InvalidMove) as caught:
                bench(COME)
            self.assertEqual((caught.exception.move, len(bench), bench.state[0]), (COME, most, most))

    def test_faults(self):
        bench = Bench(BOOK)
        for move in (COME, COME, go(0), go(0), go(1), STEP):
            bench(move)
        self.assertEqual(bench.faults(), [(go(2), "touched")])
        self.check_fault(bench, go(2), "touched")
        bench.back()
        for move in (go(2), go(3), STEP, STEP, go(4)):
            bench(move)
        self.assertEqual(bench.faults(), [(go(1), "used"), (STEP, "used")])
        self.check_fault(bench, go(1), "used")
        self.check_fault(bench, STEP, "used")
        bench.faults().clear()
        bench.moves().clear()
        self.assertEqual(bench.faults(), [(go(1), "used"), (STEP, "used")])
        self.assertEqual(bench.moves(), [COME, go(1), STEP])

    def check_fault(self, bench, move, word):
        before = told(bench)
        with self.assertRaises(Faulty) as caught:
            bench(move)
        self.assertEqual((caught.exception.word, caught.exception.move), (word, move))
        self.assertEqual(told(bench), before)

    def test_stuck_and_kept(self):
        bench = Bench(BOOK.changed(puller=(("lock",),), hands=(("look",), ("hold",), ("lock",), ("unlock",), ("let",))))
        self.assertEqual((bench.stuck(), bench.kept), (False, False))
        bench(STEP)
        self.assertEqual((bench.stuck(), bench.kept), (False, True))
        for move in (COME, go(0), go(1)):
            bench(move)
        self.assertEqual((bench.stuck(), bench.kept), (True, False))
        self.assertIsInstance(bench.stuck(), bool)
        bench(COME)

    def test_deeds_do_not_change(self):
        bench = Bench(BOOK)
        bench(COME)
        deeds = bench.deeds
        bench(STEP)
        deeds.listed().clear()
        self.assertEqual((deeds, bench.deeds), (Run(COME), Run(COME, STEP)))

    def test_made_by_chance(self):
        for seed in range(80):
            maker = Maker(seed)
            parts = maker.book(seed % 3)
            book = Book(parts[0], parts[1], puller=parts[2])
            bench = Bench(book, most=3)
            passed = []
            for _ in range(30):
                free = [move for move in model.moves(parts, bench.state, 3)
                        if model.fault_of(parts, bench.state, move) is None]
                if passed and (not free or maker.may(25)):
                    bench.back()
                    self.assertEqual(bench.state, passed.pop())
                elif free:
                    passed.append(bench.state)
                    move = maker.one_of(free)
                    self.assertEqual(bench(move), model.after(parts, passed[-1], move))
                self.check(bench, parts, book, len(passed))

    def check(self, bench, parts, book, many):
        state = bench.state
        self.assertEqual((len(bench), len(bench.deeds), play(book, bench.deeds)), (many, many, state))
        self.assertEqual(bench.moves(), moves(book, state, hands=3))
        self.assertEqual(bench.faults(), [(move, model.fault_of(parts, state, move)) for move in bench.moves()
                                          if model.fault_of(parts, state, move)])
        self.assertEqual((bench.freed, bench.kept, bench.stuck()),
                         (is_freed(book, state), is_kept(book, state), is_stuck(book, state)))


class TakingBack(unittest.TestCase):
    def test_one_by_one(self):
        bench = Bench(BOOK)
        passed = []
        for move in (COME, STEP, go(0), COME, go(1), go(0)):
            passed.append(told(bench))
            bench(move)
        while passed:
            self.assertIsNone(bench.back())
            self.assertEqual(told(bench), passed.pop())
        self.nothing(bench)

    def nothing(self, bench):
        before = told(bench)
        with self.assertRaises(NothingToUndo) as caught:
            bench.back()
        self.assertEqual(caught.exception.name, "back")
        self.assertEqual(told(bench), before)

    def test_nothing_to_take_back(self):
        self.nothing(Bench(BOOK))
        bench = Bench(BOOK)
        with self.assertRaises(InvalidMove):
            bench(go(0))
        self.nothing(bench)

    def test_another_way_then(self):
        bench = Bench(BOOK)
        bench(COME)
        bench(STEP)
        bench.back()
        bench(go(0))
        self.assertEqual((bench.deeds, len(bench)), (Run(COME, go(0)), 2))

    def test_most_stays(self):
        bench = Bench(BOOK)
        bench(COME)
        bench.most = 1
        bench.back()
        self.assertEqual((bench.most, bench.moves()), (1, [COME, STEP]))


class Most(unittest.TestCase):
    def set_most(self, bench, value):
        bench.most = value

    def allow(self, bench, value):
        self.assertIsNone(bench.allow(value))

    def test_from_the_hands_that_came_to_8(self):
        for change in (self.set_most, self.allow):
            for came in range(9):
                bench = Bench(BOOK)
                for _ in range(came):
                    bench(COME)
                for value in range(came, 9):
                    change(bench, value)
                    self.assertEqual(bench.most, value)
                    self.assertEqual(COME in bench.moves(), came < value)
                self.check_refused(change, bench, came)

    def check_refused(self, change, bench, came):
        before = told(bench)
        for value in not_within(came, 8) + tuple(range(came)):
            with self.assertRaises(InvalidNumber) as caught:
                change(bench, value)
            self.assertIs(caught.exception.value, value)
            self.assertEqual(told(bench), before)

    def test_hands_that_went_have_come(self):
        bench = Bench(BOOK)
        for move in (COME, go(0), go(1), go(2), go(3), go(4)):
            bench(move)
        self.assertEqual(bench.state[:2], (1, ()))
        self.check_refused(self.allow, bench, 1)

    def test_by_name(self):
        bench = Bench(BOOK)
        bench.allow(most=2)
        self.assertEqual(bench.most, 2)


class Copies(unittest.TestCase):
    def test_go_on_by_themselves(self):
        bench = Bench(BOOK, most=3)
        for move in (COME, go(0)):
            bench(move)
        before = told(bench)
        twin = bench.copy()
        self.assertIsInstance(twin, Bench)
        self.assertEqual(told(twin), before)
        twin(STEP)
        twin.most = 5
        self.assertEqual(told(bench), before)
        after = told(twin)
        bench.back()
        bench.back()
        bench.most = 0
        self.assertEqual(told(twin), after)
        for _ in range(3):
            twin.back()
        self.assertEqual((twin.state, twin.most, bench.most), (FIRST, 5, 0))
        with self.assertRaises(NothingToUndo):
            twin.back()

    def test_with_fewer_let_come(self):
        bench = Bench(BOOK, most=0)
        self.assertEqual(told(bench.copy()), told(bench))

    def test_within_a_trial(self):
        bench = Bench(BOOK)
        with bench.trial():
            bench(COME)
            twin = bench.copy()
        twin(STEP)
        self.assertEqual((twin.deeds, bench.deeds), (Run(COME, STEP), Run()))


class Trials(unittest.TestCase):
    def bench(self):
        bench = Bench(BOOK, most=4)
        for move in (COME, STEP, go(0)):
            bench(move)
        return bench

    def meddle(self, bench):
        bench(COME)
        bench.back()
        bench.back()
        bench.back()
        bench.most = 7
        bench(go(0))
        bench(COME)

    def test_trial(self):
        bench = self.bench()
        before = told(bench)
        with bench.trial() as tried:
            self.assertIs(tried, bench)
            self.assertEqual(told(bench), before)
            self.meddle(bench)
            self.assertEqual((bench.deeds, bench.most), (Run(COME, go(0), COME), 7))
        self.assertEqual(told(bench), before)
        bench(STEP)
        bench.back()
        self.assertEqual(told(bench), before)
        for _ in range(3):
            bench.back()
        self.assertEqual(bench.state, FIRST)

    def test_attempt(self):
        bench = self.bench()
        before = told(bench)
        passed = []

        def visitor(tried):
            passed.append(tried)
            self.meddle(tried)
            return passed
        self.assertIs(bench.attempt(visitor), passed)
        self.assertEqual(len(passed), 1)
        self.assertIs(passed[0], bench)
        self.assertEqual(told(bench), before)
        self.assertIsNone(bench.attempt(visitor=self.meddle))
        self.assertEqual(bench.attempt(lambda tried: tried(STEP)), (1, (1,), ((False, None),), 2, False))
        self.assertEqual(told(bench), before)

    def test_taken_back_beyond_the_beginning(self):
        bench = self.bench()
        before = told(bench)
        with bench.trial():
            for _ in range(3):
                bench.back()
            self.assertEqual((bench.state, len(bench)), (FIRST, 0))
            with self.assertRaises(NothingToUndo):
                bench.back()
        self.assertEqual(told(bench), before)

    def test_most_alone(self):
        bench = self.bench()
        with bench.trial():
            bench.allow(1)
        self.assertEqual(bench.most, 4)
        with bench.trial():
            bench(COME)
            bench(COME)
            bench.most = 3
        self.assertEqual((bench.most, bench.state[0]), (4, 1))

    def test_behind_an_error(self):
        bench = self.bench()
        before = told(bench)
        error = Stop()

        def visitor(tried):
            self.meddle(tried)
            raise error
        with self.assertRaises(Stop) as caught:
            with bench.trial():
                visitor(bench)
        self.assertIs(caught.exception, error)
        self.assertEqual(told(bench), before)
        with self.assertRaises(Stop) as caught:
            bench.attempt(visitor)
        self.assertIs(caught.exception, error)
        self.assertEqual(told(bench), before)

    def test_behind_errors_of_its_own(self):
        bench = self.bench()
        before = told(bench)
        for move, error in ((go(5), InvalidMove), (None, InvalidMove)):
            with self.assertRaises(error):
                with bench.trial():
                    self.meddle(bench)
                    bench(move)
            self.assertEqual(told(bench), before)
        with self.assertRaises(Faulty):
            bench.attempt(lambda tried: (tried(go(1)), tried(go(2))))
        self.assertEqual(told(bench), before)

    def test_within_one_another(self):
        bench = self.bench()
        levels = []
        with bench.trial():
            self.meddle(bench)
            levels.append(told(bench))
            with bench.trial():
                bench.most = 6
                bench.back()
                levels.append(told(bench))
                self.assertEqual(bench.attempt(lambda tried: (tried.back(), len(tried))[1]), 1)
                self.assertEqual(told(bench), levels[1])
                with self.assertRaises(Stop):
                    with bench.trial():
                        bench.back()
                        bench.allow(8)
                        raise Stop()
                self.assertEqual(told(bench), levels[1])
            self.assertEqual(told(bench), levels[0])
            with bench.trial():
                bench.back()
            self.assertEqual(told(bench), levels[0])
        self.assertEqual(told(bench), told(self.bench()))

    def test_an_error_through_all(self):
        bench = self.bench()

        def visitor(tried):
            with tried.trial():
                self.meddle(tried)
                with tried.trial():
                    self.meddle(tried)
                    tried.attempt(lambda other: other(go(9)))
        with self.assertRaises(InvalidMove) as caught:
            bench.attempt(visitor)
        self.assertEqual(caught.exception.move, go(9))
        self.assertEqual(told(bench), told(self.bench()))

    def test_one_trial_used_again(self):
        bench = self.bench()
        trial = bench.trial()
        bench(STEP)
        before = told(bench)
        for _ in range(2):
            with trial:
                bench.back()
                with trial:
                    bench.back()
                self.assertEqual(len(bench), 3)
            self.assertEqual(told(bench), before)

    def test_two_benches(self):
        one, two = self.bench(), self.bench()
        with one.trial():
            one.back()
            with two.trial():
                two.back()
                one.back()
            two.back()
        self.assertEqual((len(one), len(two)), (3, 2))


class First(unittest.TestCase):
    def test_of_other_books(self):
        for seed in range(12):
            parts = Maker(seed).book(seed % 3)
            book = Book(parts[0], parts[1], puller=parts[2])
            self.assertEqual(Bench(book).state, first_state(book))


if __name__ == "__main__":
    unittest.main()
