import inspect
import unittest

import model
import picking
import samples
from making import Maker
from odd import not_within
from samples import DOWN, EMPTY, HANDS, HOLD, LET, LOCK, LOCKED, LOOK, MARK, OUT, TOUCH, TRY, UNLOCK, USE, WAIT

from pulledout.books import Book
from pulledout.comparing import told_apart, unlike
from pulledout.errors import InvalidNumber, LimitExceeded
from pulledout.faults import faults, is_shown
from pulledout.moves import after, fault_of, first_state, moves
from pulledout.runs import Run

WORDS = ("touched", "used", "stuck", "kept")
COME, STEP = ("come",), ("step",)
LATE = Book(HANDS, puller=(MARK, WAIT, DOWN, LET))
EARLY = LATE.changed(puller=(WAIT, MARK, DOWN, LET))


def named(name):
    return samples.made(samples.NAMED[name][0])


def pairs(many):
    """Pairs of (parts, book), many of them alike but for one row."""
    told = []
    known = samples.samples(40, largest=120)
    maker = Maker(5)
    for parts, book in known:
        hands, works, puller = parts
        told.append(((parts, book), known[maker.chance.randrange(len(known))]))
        steps = list(puller)
        if len(steps) > 1:
            at = maker.chance.randrange(1, len(steps))
            steps[at - 1:at + 1] = steps[at - 1:at + 1][::-1]
            if picking.is_puller(steps):
                other = (hands, works, tuple(steps))
                told.append(((parts, book), (other, samples.made(other))))
    return told[:many]


def search(book, other, most):
    """The length of a shortest run that tells two books of the model apart, or None, and how many pairs there are."""
    level = [(model.first_state(book), model.first_state(other))]
    seen = set(level)
    length = 0
    while level:
        length += 1
        found = []
        for state, state_of_other in level:
            told = {move: model.fault_of(book, state, move) for move in model.moves(book, state, most)}
            others = {move: model.fault_of(other, state_of_other, move)
                      for move in model.moves(other, state_of_other, most)}
            if told != others:
                return length, len(seen)
            for move, word in told.items():
                behind = (model.after(book, state, move), model.after(other, state_of_other, move)) if not word else None
                if behind is not None and behind not in seen:
                    seen.add(behind)
                    found.append(behind)
        level = found
    return None, len(seen)


class Examples(unittest.TestCase):
    def test_of_the_interface(self):
        self.assertEqual((unlike(LATE, EARLY)[:2], len(told_apart(LATE, EARLY)), unlike(LATE, LATE)),
                         (("touched", 1), 5, None))

    def test_by_name(self):
        self.assertEqual(unlike(book=LATE, other=EARLY, limit=900), unlike(LATE, EARLY))
        self.assertEqual(told_apart(book=LATE, other=EARLY, hands=1, limit=900), told_apart(LATE, EARLY))
        with self.assertRaises(TypeError):
            unlike(LATE, EARLY, 900)
        with self.assertRaises(TypeError):
            told_apart(LATE, EARLY, 1)
        for function, defaults in ((unlike, {"limit": 6000}), (told_apart, {"hands": 1, "limit": 6000})):
            parameters = inspect.signature(function).parameters.values()
            self.assertEqual({told.name: told.default for told in parameters if told.kind == told.KEYWORD_ONLY}, defaults)


class Unlike(unittest.TestCase):
    def check(self, book, other):
        told = unlike(book, other)
        shown = [faults(book), faults(other)]
        words = [word for word in WORDS if (word in shown[0]) != (word in shown[1])]
        if not words:
            self.assertIsNone(told)
            return None
        self.assertIsInstance(told, tuple)
        word, which, run = told
        self.assertEqual(word, words[0])
        self.assertIs(which, 0 if word in shown[0] else 1)
        self.assertIs(is_shown((book, other)[which], word, run), True)
        self.assertEqual(len(run), len(shown[which][word]))
        return word, which

    def test_all_pairs_of_named_books(self):
        seen = set()
        for name in samples.NAMED:
            for other in samples.NAMED:
                told = self.check(named(name), named(other))
                turned = self.check(named(other), named(name))
                self.assertEqual(turned, told and (told[0], 1 - told[1]))
                seen.add(told)
        self.assertEqual(seen, {None} | {(word, which) for word in WORDS for which in (0, 1)})

    def test_alike(self):
        for name in samples.NAMED:
            self.assertIsNone(unlike(named(name), named(name)))
        # What is alike is told by the words alone.
        self.assertIsNone(unlike(named("sound"), named("a work that is barred")))
        self.assertIsNone(unlike(EARLY, named("waits too early")))

    def test_shortest_run(self):
        word, which, run = unlike(LATE, LATE.changed(puller=(DOWN, MARK, WAIT, LET)))
        self.assertEqual((word, which, len(run)), ("touched", 1, 7))

    def test_limits(self):
        small, large = Book((LOOK, TRY, LET), puller=(LET,)), LATE
        many = [picking.many_states(book, 2) for book in (small, large)]
        self.assertLess(many[0], many[1])
        for book, other in ((small, large), (large, small)):
            self.assertEqual(unlike(book, other, limit=many[1]), unlike(book, other))
            for limit in (many[1] - 1, many[0], many[0] - 1, 1):
                with self.assertRaises(LimitExceeded) as caught:
                    unlike(book, other, limit=limit)
                self.assertEqual(caught.exception.limit, limit)

    def test_no_limits(self):
        for value in not_within(1, 100000):
            for function in (unlike, told_apart):
                with self.assertRaises(InvalidNumber) as caught:
                    function(LATE, EARLY, limit=value)
                self.assertIs(caught.exception.value, value)


class ToldApart(unittest.TestCase):
    def check(self, book, other, most, length):
        run = told_apart(book, other, hands=most, limit=100000)
        if length is None:
            self.assertIsNone(run)
            return
        self.assertIsInstance(run, Run)
        self.assertEqual(len(run), length)
        self.assertLessEqual(run.hands, most)
        states = [first_state(book), first_state(other)]
        for move in run.listed()[:-1]:
            for at, told in enumerate((book, other)):
                self.assertIn(move, moves(told, states[at], hands=most))
                self.assertIsNone(fault_of(told, states[at], move))
                states[at] = after(told, states[at], move)
        move = run[length - 1]
        possible = [move in moves(told, state, hands=most) for told, state in zip((book, other), states)]
        self.assertTrue(any(possible))
        if all(possible):
            self.assertNotEqual(*[fault_of(told, state, move) for told, state in zip((book, other), states)])

    def test_against_a_search(self):
        seen = {}
        for (parts, book), (other_parts, other) in pairs(70):
            for most in (0, 1, 2):
                length, many = search(parts, other_parts, most)
                self.check(book, other, most, length)
                self.check(other, book, most, length)
                seen[length] = seen.get(length, 0) + 1
                if length is None:
                    self.assertIsNone(told_apart(book, other, hands=most, limit=many))
                    if many > 1:
                        with self.assertRaises(LimitExceeded) as caught:
                            told_apart(book, other, hands=most, limit=many - 1)
                        self.assertEqual(caught.exception.limit, many - 1)
                else:
                    self.check(book, other, most, len(told_apart(book, other, hands=most, limit=100000)))
        self.assertGreater(seen[None], 20)
        self.assertGreater(len(seen), 7)

    def test_alike(self):
        for name in samples.NAMED:
            self.assertIsNone(told_apart(named(name), named(name)))
        # Steps that change nothing are not told apart by what can be done.
        book = Book((LOOK, TRY, LET), puller=(MARK, LET))
        self.assertIsNone(told_apart(book, book.changed(puller=(DOWN, LET))))
        self.assertIsNone(told_apart(book, book.changed(puller=(("mark", "dead"), LET)), hands=2))

    def test_named(self):
        body = (LOOK, TRY, TOUCH, LET)
        for hands, puller, other_hands, other_puller, most, length in (
                (body, (), body, (OUT,), 1, 1), (body, (OUT,), body, (OUT, OUT)[:1] + (LET,), 0, 2),
                (body, (DOWN, LET), body, (OUT, LET), 1, 4), (body, (DOWN,), body, (MARK,), 1, 5),
                (body, (DOWN,), (LOOK, TRY, USE, LET), (DOWN,), 1, 5), (body, (DOWN,), body, (MARK,), 0, None),
                ((LOOK, HOLD, LET), (LET,), (LOOK, TRY, LET), (LET,), 1, 4), ((LOOK, HOLD, LET), (), (LOOK, TRY, LET), (), 8, None)):
            self.check(Book(hands, puller=puller), Book(other_hands, puller=other_puller), most, length)

    def test_both_faults_by_unlike_words(self):
        # The puller has the lock from when all hands still hold to when the device is down and the record freed.
        book = Book(LOCKED + (("start", "job"), LET), {"job": (LOCK, TOUCH, UNLOCK)},
                    puller=(LOCK, OUT, EMPTY, DOWN, LET, UNLOCK))
        other = book.changed(works={"job": (LOCK, USE, UNLOCK)})
        self.check(book, other, 1, 16)
        self.check(other, book, 2, 16)
        run = told_apart(book, other)
        words = [fault_of(told, self.behind(told, run.listed()[:-1]), ("run", "job")) for told in (book, other)]
        self.assertEqual((run[15], words), (("run", "job"), ["touched", "used"]))

    def test_the_same_fault_in_both(self):
        book = Book((LOOK, TRY, TOUCH, LET), puller=(DOWN,))
        other = Book((LOOK, TRY, TOUCH, USE, LET), puller=(DOWN,))
        # Behind the down the touch ends all runs of both.
        self.assertEqual(told_apart(book, other), Run(COME, *[("go", place) for place in range(5)]))
        self.check(book, other, 1, 6)

    def behind(self, book, run):
        state = first_state(book)
        for move in run:
            state = after(book, state, move)
        return state

    def test_works_of_one_alone(self):
        hands = (LOOK, TRY, ("start", "job"), LET)
        book = Book(hands, {"job": (USE,)}, puller=(LET,))
        other = Book((LOOK, TRY, USE, LET), puller=(LET,))
        self.check(book, other, 1, 5)
        self.assertEqual(told_apart(book, other)[4], ("begin", "job"))
        self.assertEqual(told_apart(other, book)[4], ("begin", "job"))

    def test_hands(self):
        # Only a second hand shows whether the first one has left the lock to it.
        book = Book(LOCKED + (LET,), puller=(LET,))
        other = Book((LOCK, LOOK, UNLOCK, HOLD, LET), puller=(LET,))
        for most in (0, 1, 2, 3):
            length = search((LOCKED + (LET,), {}, (LET,)), (other.hands.parts, {}, (LET,)), most)[0]
            self.check(book, other, most, length)
        self.assertEqual([told_apart(book, other, hands=most) is None for most in (0, 1)], [True, False])
        self.assertEqual(told_apart(book, other).hands, 1)

    def test_one_hand_if_nothing_is_told(self):
        for (_, book), (_, other) in pairs(20):
            self.assertEqual(told_apart(book, other), told_apart(book, other, hands=1))

    def test_no_numbers_of_hands(self):
        for value in not_within(0, 8):
            for limit in (6000, 0, None):
                with self.assertRaises(InvalidNumber) as caught:
                    told_apart(LATE, LATE, hands=value, limit=limit)
                self.assertIs(caught.exception.value, value)

    def test_as_many_pairs_as_the_table_has_states(self):
        for name in ("sound", "a work that is barred", "all faults"):
            for most in (0, 1, 2):
                many = picking.many_states(named(name), most)
                self.assertIsNone(told_apart(named(name), named(name), hands=most, limit=many))
                with self.assertRaises(LimitExceeded) as caught:
                    told_apart(named(name), named(name), hands=most, limit=many - 1)
                self.assertEqual(caught.exception.limit, many - 1)

    def test_equal_calls(self):
        self.assertEqual(told_apart(LATE, EARLY), told_apart(LATE.changed(), EARLY.changed()))
        self.assertEqual(unlike(LATE, EARLY), unlike(LATE.changed(), EARLY.changed()))


if __name__ == "__main__":
    unittest.main()
