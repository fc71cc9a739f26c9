import unittest

import model
from making import Maker
from odd import ODD, Refuses, Same, not_within

from pulledout.books import Book
from pulledout.errors import Faulty, InvalidMove, InvalidNumber
from pulledout.runs import Run, fault_at_end, is_run, play

COME, STEP, BEGIN = ("come",), ("step",), ("begin", "job")
NO_MOVES = ODD + ("come", ["come"], ("come", 0), ("go",), ("go", True), ("go", -1), ("go", 14), ("go", "job"),
                  ("begin", "Job"), ("begin", 0), ("walk",), ["go", 0], Run(COME))


def go(place):
    return ("go", place)


MOVES = (COME, go(0), STEP, COME, BEGIN, ("run", "job"), go(13))
# The puller takes the device down without having waited for anyone.
BOOK = Book((("look",), ("hold",), ("touch",), ("let",)), {"job": (("use",),)},
            puller=(("down",), ("out",), ("let",), ("mark", "gone")))
TO_TOUCH = (COME, go(0), go(1), STEP)
TO_USE = (STEP, STEP, STEP)


class Making(unittest.TestCase):
    def test_listed(self):
        for moves in ((), MOVES, (COME,) * 20):
            for run in (Run(*moves), Run.of(moves), Run.of(list(moves)), Run.of(iter(moves)), Run.of(Run(*moves)),
                        Run.of(move for move in moves), Run.of(moves=dict(enumerate(moves)).values())):
                self.assertIsInstance(run, Run)
                self.assertIsInstance(run.listed(), list)
                self.assertEqual(run.listed(), list(moves))
                self.assertEqual((len(run), list(run), tuple(run)), (len(moves), list(moves), moves))
                self.assertEqual([run[index] for index in range(len(run))], list(moves))

    def test_no_moves(self):
        for value in NO_MOVES:
            for at in range(3):
                moves = [COME, STEP]
                moves.insert(at, value)
                for make in (lambda: Run(*moves), lambda: Run.of(moves), lambda: Run.of(iter(moves))):
                    with self.assertRaises(InvalidMove) as caught:
                        make()
                    self.assertIs(caught.exception.move, value)

    def test_first_of_several(self):
        for moves in ((None, "come"), (COME, None, True)):
            with self.assertRaises(InvalidMove) as caught:
                Run(*moves)
            self.assertIsNone(caught.exception.move)

    def test_hands(self):
        for moves, many in (((), 0), ((STEP, go(0)), 0), (MOVES, 2), ((COME,) * 9, 9)):
            self.assertEqual(Run(*moves).hands, many)

    def test_no_indexes(self):
        for moves in ((), MOVES):
            for value in not_within(0, len(moves) - 1):
                with self.assertRaises(InvalidNumber) as caught:
                    Run(*moves)[value]
                self.assertIs(caught.exception.value, value)

    def test_members(self):
        run = Run(COME, go(1), go(0), BEGIN)
        for move in (COME, go(0), go(1), BEGIN):
            self.assertIs(move in run, True)
        for value in NO_MOVES + (STEP, go(2), ("run", "job"), ("begin", "tick"), ("go", True), ("go", False), ["go", 1],
                                 ["come"], (Same(),), ("go", Same())):
            self.assertIs(value in run, False)

    def test_equality(self):
        runs = [(), (COME,), (COME, STEP), (STEP, COME), (go(0),), (go(1),), MOVES]
        for first in runs:
            for second in runs:
                self.assertIs(Run(*first) == Run.of(list(second)), first == second)
                self.assertIs(Run(*first) != Run.of(list(second)), first != second)

    def test_equal_to_nothing_else(self):
        for moves in ((), MOVES):
            for value in (moves, list(moves), None, False, 0, "", object(), Same(), Refuses()):
                self.assertIs(Run(*moves) == value, False)
                self.assertIs(Run(*moves) != value, True)

    def test_changed_lists(self):
        passed = [COME, STEP]
        run = Run.of(passed)
        passed.append(STEP)
        run.listed().clear()
        self.assertEqual(run, Run(COME, STEP))

    def test_iterated_twice(self):
        run = Run(COME, STEP)
        self.assertEqual([(one, two) for one in run for two in run],
                         [(COME, COME), (COME, STEP), (STEP, COME), (STEP, STEP)])

    def test_read_only(self):
        with self.assertRaises(AttributeError):
            Run().hands = 1


class Joining(unittest.TestCase):
    def test_from_either_side(self):
        for first in ((), (COME,), MOVES):
            for second in ((), (STEP,), MOVES):
                expected = Run(*first, *second)
                for other in (Run(*second), second, list(second)):
                    self.check(Run(*first) + other, expected)
                for other in (first, list(first)):
                    self.check(other + Run(*second), expected)

    def check(self, run, expected):
        self.assertIsInstance(run, Run)
        self.assertEqual(run, expected)

    def test_makes_new_ones(self):
        first, second, listed = Run(COME), Run(STEP), [STEP]
        first + second
        first + listed
        listed + first
        self.assertEqual((first, second, listed), (Run(COME), Run(STEP), [STEP]))

    def test_in_place(self):
        for other in (Run(STEP, COME), (STEP, COME), [STEP, COME]):
            run = same = Run(COME)
            run += other
            self.check(run, Run(COME, STEP, COME))
            self.check(same, Run(COME))
            self.assertEqual(list(other), [STEP, COME])
        run = Run()
        run += []
        self.check(run, Run())

    def ways(self, other):
        def in_place():
            run = Run(COME)
            run += other
        return [lambda: Run(COME) + other, lambda: other + Run(COME), in_place]

    def test_other_kinds(self):
        for other in (None, True, 0, 1.5, "", "come", b"", {}, {COME}, {COME: STEP}, frozenset(), range(0), Same(),
                      object(), BOOK, BOOK.puller):
            for way in self.ways(other):
                with self.assertRaises(InvalidMove) as caught:
                    way()
                self.assertIs(caught.exception.move, other)

    def test_iterators(self):
        for other in (iter([COME]), (move for move in [COME])):
            with self.assertRaises(InvalidMove) as caught:
                Run() + other
            self.assertIs(caught.exception.move, other)

    def test_no_moves(self):
        for value in NO_MOVES:
            for other in ((STEP, value, 0), [STEP, value, 0], [value]):
                for way in self.ways(other):
                    with self.assertRaises(InvalidMove) as caught:
                        way()
                    self.assertIs(caught.exception.move, value)
        for way in self.ways(COME):
            with self.assertRaises(InvalidMove) as caught:
                way()
            self.assertEqual(caught.exception.move, "come")


class Playing(unittest.TestCase):
    def test_states(self):
        self.assertEqual(play(BOOK, Run()), (0, (), ((False, None),), 0, False))
        self.assertEqual(play(BOOK, Run(*TO_TOUCH)), (1, (2,), ((False, None),), 1, False))
        self.assertEqual(play(BOOK, Run(*(COME,) * 8)), (8, (0,) * 8, ((False, None),), 0, False))
        self.assertEqual(play(book=BOOK, run=Run(*TO_USE)), (0, (), ((False, None),), 3, False))

    def test_not_possible(self):
        for moves, move in (((go(0),), go(0)), ((COME, go(1)), go(1)), ((COME, go(13)), go(13)), ((BEGIN,), BEGIN),
                            ((COME,) * 9, COME), (TO_TOUCH + (("run", "job"), STEP), ("run", "job")),
                            ((("begin", "gone"),), ("begin", "gone")), ((COME, go(0), go(0), go(5)), go(0)),
                            ((go(0), COME, go(0), go(1), STEP, go(2)), go(0)), ((COME, STEP, STEP, STEP, go(5)), go(5))):
            with self.assertRaises(InvalidMove) as caught:
                play(BOOK, Run(*moves))
            self.assertEqual(caught.exception.move, move)
            self.assertIs(is_run(BOOK, Run(*moves)), False)
            self.assertIsNone(fault_at_end(BOOK, Run(*moves)))

    def test_faults_at_the_end(self):
        for moves, word in ((TO_TOUCH + (go(2),), "touched"), (TO_USE + (STEP,), "used"),
                            ((COME, go(0)) + TO_USE + (go(1),), "used")):
            run = Run(*moves)
            with self.assertRaises(Faulty) as caught:
                play(BOOK, run)
            self.assertEqual((caught.exception.word, caught.exception.move), (word, moves[-1]))
            self.assertIs(is_run(BOOK, run), False)
            self.assertEqual(fault_at_end(BOOK, run), word)
            self.assertIs(is_run(BOOK, Run(*moves[:-1])), True)
            self.assertIsNone(fault_at_end(BOOK, Run(*moves[:-1])))

    def test_faults_ahead_of_the_end(self):
        for moves, word, move in ((TO_TOUCH + (go(2), STEP), "touched", go(2)), (TO_USE + (STEP, COME), "used", STEP),
                                  (TO_TOUCH + (go(2), go(13)), "touched", go(2)),
                                  (TO_TOUCH + (go(2), go(2)), "touched", go(2))):
            with self.assertRaises(Faulty) as caught:
                play(BOOK, Run(*moves))
            self.assertEqual((caught.exception.word, caught.exception.move), (word, move))
            self.assertIs(is_run(BOOK, Run(*moves)), False)
            self.assertIsNone(fault_at_end(BOOK, Run(*moves)))

    def test_runs(self):
        for moves in ((), TO_TOUCH, TO_USE, (COME,) * 8, (STEP, STEP, COME, go(0), STEP)):
            self.assertIs(is_run(BOOK, Run(*moves)), True)
            self.assertIsNone(fault_at_end(BOOK, Run(*moves)))
        self.assertIs(is_run(book=BOOK, value=Run()), True)
        self.assertEqual(fault_at_end(book=BOOK, value=Run(*TO_USE, STEP)), "used")

    def test_stuck_and_kept_are_no_faults_of_moves(self):
        kept = BOOK.changed(puller=())
        self.assertIs(is_run(kept, Run()), True)
        self.assertIs(is_run(kept, Run(COME, go(0))), True)
        self.assertIsNone(fault_at_end(kept, Run()))

    def test_no_runs(self):
        for value in NO_MOVES[:-1] + (list(TO_TOUCH), TO_TOUCH, (), [], TO_TOUCH + (go(2),), list(TO_USE) + [STEP], BOOK):
            self.assertIs(is_run(BOOK, value), False)
            self.assertIsNone(fault_at_end(BOOK, value))

    def test_made_by_chance(self):
        told = {}
        for seed in range(200):
            maker = Maker(seed)
            parts = maker.book(seed % 3)
            book = Book(parts[0], parts[1], puller=parts[2])
            moves = []
            state = model.first_state(parts)
            word = None
            while word is None and len(moves) < 60 and model.moves(parts, state, 2):
                moves.append(maker.one_of(model.moves(parts, state, 2)))
                word = model.fault_of(parts, state, moves[-1])
                if word is None:
                    state = model.after(parts, state, moves[-1])
                    self.assertEqual(play(book, Run(*moves)), state)
            told[word] = told.get(word, 0) + 1
            self.assertIs(is_run(book, Run(*moves)), word is None)
            self.assertEqual(fault_at_end(book, Run(*moves)), word)
        self.assertGreater(min(told["touched"], told["used"], told[None]), 10)


if __name__ == "__main__":
    unittest.main()
