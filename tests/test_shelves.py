import inspect
import unittest

import picking
import samples
from odd import ODD, not_within
from samples import DOWN, HANDS, HOLD, LET, LOCK, LOCKED, LOOK, MARK, OUT, SOUND, TRY, UNLOCK, WAIT

from pulledout.books import Book
from pulledout.errors import InvalidBook, InvalidNumber, LimitExceeded, NothingToUndo, NotRight, UnknownName
from pulledout.faults import faults, is_shown
from pulledout.shelves import Shelf

SMALL = Book((LOOK, TRY, LET), puller=(LET,))
SAFE = Book(HANDS, puller=SOUND)
LOCKING = Book(LOCKED + (LET,), puller=(LOCK, OUT, UNLOCK, LET))
WRONG = Book(HANDS, puller=(OUT, WAIT, MARK, DOWN, LET))
KEPT = Book((LOOK, HOLD, LET), puller=())
NO_NAMES = ODD + ("", "A", "a b", "a1", "ninechars", ("a",), ["a"], b"a")
NO_BOOKS = ODD + ("a", (HANDS, {}, SOUND), SAFE.hands)
EIGHT = "abcdefgh"


class Stop(Exception):
    pass


def told(shelf):
    """All that a shelf tells of what is kept."""
    return {name: shelf[name] for name in shelf.names()}, shelf.changes()


def filled():
    shelf = Shelf()
    shelf.put("small", SMALL)
    shelf["safe"] = SAFE
    return shelf


class Basics(unittest.TestCase):
    def test_empty(self):
        shelf = Shelf()
        self.assertEqual((len(shelf), shelf.names(), list(shelf), shelf.changes(), shelf.limit), (0, [], [], 0, 6000))
        self.assertIs("a" in shelf, False)

    def test_put_and_set(self):
        shelf = filled()
        self.assertEqual((len(shelf), shelf.names(), sorted(shelf), shelf.changes()), (2, ["safe", "small"], ["safe", "small"], 2))
        self.assertIs(shelf["safe"], SAFE)
        self.assertIs(shelf["small"], SMALL)
        self.assertIsNone(shelf.put(name="safe", book=LOCKING))
        self.assertEqual((len(shelf), shelf["safe"], shelf.changes()), (2, LOCKING, 3))

    def test_drop(self):
        shelf = filled()
        self.assertIsNone(shelf.drop(name="safe"))
        self.assertEqual((shelf.names(), shelf.changes()), (["small"], 3))
        with self.assertRaises(UnknownName):
            shelf["safe"]

    def test_members(self):
        shelf = filled()
        for name in ("safe", "small"):
            self.assertIs(name in shelf, True)
        for value in NO_NAMES + ("smal", SAFE, "zoo"):
            self.assertIs(value in shelf, False)

    def test_names_that_are_not_kept(self):
        shelf = filled()
        before = told(shelf)
        for value in NO_NAMES + ("zoo", SAFE):
            for function in (lambda: shelf[value], lambda: shelf.drop(value), lambda: shelf.words(value)):
                with self.assertRaises(UnknownName) as caught:
                    function()
                self.assertIs(caught.exception.name, value)
        self.assertEqual(told(shelf), before)

    def test_words(self):
        shelf = filled()
        self.assertEqual(shelf.words(name="safe"), [])
        with shelf.trial():
            for name, (parts, words) in samples.NAMED.items():
                shelf.put("named", samples.made(parts))
                self.assertEqual(shelf.words("named"), list(words), name)
                self.assertEqual(shelf.words("named"), list(faults(samples.made(parts))))

    def test_new_lists(self):
        shelf = filled()
        shelf.names().clear()
        list(shelf).clear()
        with shelf.trial():
            shelf["wrong"] = WRONG
            shelf.words("wrong").clear()
            self.assertEqual(shelf.words("wrong"), ["touched"])
        self.assertEqual(shelf.names(), ["safe", "small"])

    def test_iteration_while_it_changes(self):
        shelf = filled()
        for name in shelf:
            shelf.drop(name)
        self.assertEqual(len(shelf), 0)

    def test_side_by_side(self):
        first, second = filled(), Shelf(limit=500)
        second["a"] = LOCKING
        first.undo()
        with first.trial():
            first["zoo"] = WRONG
            self.assertEqual(second.names(), ["a"])
            with self.assertRaises(NotRight):
                second["zoo"] = WRONG
            with self.assertRaises(NothingToUndo):
                second.accept()
        first.limit = 700
        self.assertEqual((first.names(), second.names(), first.changes(), second.changes()), (["small"], ["a"], 1, 1))
        self.assertEqual((first.limit, second.limit), (700, 500))


class Refused(unittest.TestCase):
    def putters(self, shelf):
        def by_index(name, book):
            shelf[name] = book
        return shelf.put, by_index

    def check(self, shelf, name, book, kind):
        before = told(shelf)
        errors = []
        for function in self.putters(shelf):
            with self.assertRaises(kind) as caught:
                function(name, book)
            errors.append(caught.exception)
            self.assertEqual(told(shelf), before)
        return errors

    def test_no_names(self):
        for value in NO_NAMES:
            for book in (SAFE, WRONG, None):
                for error in self.check(filled(), value, book, UnknownName):
                    self.assertIs(error.name, value)

    def test_no_books(self):
        for value in NO_BOOKS:
            for name in ("small", "zoo"):
                for error in self.check(filled(), name, value, InvalidBook):
                    self.assertEqual((error.part, error.name), ("shelf", name))

    def test_a_ninth_name(self):
        shelf = Shelf()
        for name in EIGHT:
            shelf[name] = SMALL
        for book in (SMALL, WRONG):
            for error in self.check(shelf, "i", book, LimitExceeded):
                self.assertEqual(error.limit, 8)
        self.check(shelf, "i", None, InvalidBook)
        self.check(shelf, "I", SMALL, UnknownName)
        shelf["h"] = LOCKING
        with shelf.trial():
            self.check(shelf, "i", WRONG, LimitExceeded)
            shelf.drop("a")
            shelf["i"] = WRONG
            self.check(shelf, "a", WRONG, LimitExceeded)
        shelf.drop("b")
        shelf["i"] = SMALL
        self.assertEqual((len(shelf), shelf.changes()), (8, 11))

    def test_books_that_are_not_right(self):
        for book in (WRONG, KEPT):
            for name in ("small", "zoo"):
                for error in self.check(filled(), name, book, NotRight):
                    self.assertLessEqual(error.run.hands, 1)
                    self.assertIs(is_shown(book, error.word, error.run), True)

    def test_states(self):
        many = picking.many_states(SAFE)
        shelf = Shelf(limit=many)
        shelf["safe"] = SAFE
        with self.assertRaises(LimitExceeded) as caught:
            shelf.words("safe")
        self.assertEqual(caught.exception.limit, many)
        two = picking.many_states(SAFE, 2)
        shelf.limit = two
        self.assertEqual(shelf.words("safe"), [])
        for function in (lambda: shelf.bound(many - 1), lambda: setattr(shelf, "limit", many - 1)):
            function()
            for name in ("safe", "zoo"):
                for error in self.check(shelf, name, SAFE, LimitExceeded):
                    self.assertEqual(error.limit, many - 1)
            for error in self.check(shelf, "zoo", WRONG, LimitExceeded):
                self.assertEqual(error.limit, many - 1)
            # What is kept stays, and what is small enough is let in.
            self.assertEqual((shelf["safe"], shelf.limit), (SAFE, many - 1))
            shelf["small"] = SMALL


class Limits(unittest.TestCase):
    def test_no_limits(self):
        for value in not_within(1, 100000):
            shelf = filled()
            for function in (lambda: Shelf(limit=value), lambda: shelf.bound(value), lambda: setattr(shelf, "limit", value)):
                with self.assertRaises(InvalidNumber) as caught:
                    function()
                self.assertIs(caught.exception.value, value)
            self.assertEqual(shelf.limit, 6000)

    def test_assigned(self):
        for limit in (1, 100000, 7):
            shelf = Shelf(limit=limit)
            self.assertEqual(shelf.limit, limit)
            self.assertIsNone(shelf.bound(value=limit + 1 if limit < 100000 else 3))
            shelf.limit = limit
            self.assertEqual(shelf.limit, limit)
        with self.assertRaises(TypeError):
            Shelf(500)

    def test_no_undo_and_no_trial_changes_it(self):
        shelf = filled()
        shelf.limit = 900
        shelf.undo()
        self.assertEqual(shelf.limit, 900)
        with shelf.trial():
            shelf.limit = 800
            with shelf.trial():
                shelf.bound(700)
                shelf.accept()
            self.assertEqual(shelf.limit, 700)
        self.assertEqual(shelf.limit, 700)
        with self.assertRaises(Stop):
            with shelf.trial():
                shelf.limit = 600
                raise Stop()
        self.assertEqual((shelf.limit, shelf.changes()), (600, 1))
        shelf.attempt(lambda told: told.bound(500))
        self.assertEqual(shelf.limit, 500)

    def test_in_trials(self):
        many = picking.many_states(SAFE)
        shelf = Shelf(limit=many - 1)
        with shelf.trial():
            shelf["safe"] = SAFE
            with self.assertRaises(LimitExceeded) as caught:
                shelf.accept()
            self.assertEqual(caught.exception.limit, many - 1)
            with self.assertRaises(LimitExceeded):
                shelf.words("safe")
            shelf.limit = many
            shelf.accept()
            shelf.limit = 1
        self.assertEqual((shelf.names(), shelf.limit), (["safe"], 1))


class Undoing(unittest.TestCase):
    def test_nothing(self):
        shelf = Shelf()
        for function in (shelf.undo, shelf.accept):
            with self.assertRaises(NothingToUndo) as caught:
                function()
            self.assertEqual(caught.exception.name, "undo" if function == shelf.undo else "accept")
        shelf["a"] = SMALL
        shelf.undo()
        with self.assertRaises(NothingToUndo):
            shelf.undo()
        with self.assertRaises(NotRight):
            shelf["a"] = WRONG
        with self.assertRaises(NothingToUndo):
            shelf.undo()

    def test_to_the_first(self):
        shelf = Shelf()
        states = [told(shelf)]
        for function in (lambda: shelf.put("a", SMALL), lambda: shelf.put("b", SAFE), lambda: shelf.put("a", LOCKING),
                         lambda: shelf.put("a", LOCKING), lambda: shelf.drop("b"), lambda: shelf.drop("a"),
                         lambda: shelf.put("c", SMALL)):
            function()
            states.append(told(shelf))
        self.assertEqual([changes for _, changes in states], list(range(8)))
        while states:
            self.assertEqual(told(shelf), states.pop())
            if states:
                self.assertIsNone(shelf.undo())
        with self.assertRaises(NothingToUndo):
            shelf.undo()

    def test_what_was_refused_is_no_change(self):
        shelf = filled()
        for name, book in (("zoo", WRONG), ("Zoo", SAFE), ("zoo", None)):
            with self.assertRaises((NotRight, UnknownName, InvalidBook)):
                shelf[name] = book
        with self.assertRaises(UnknownName):
            shelf.drop("zoo")
        self.assertEqual(shelf.changes(), 2)
        shelf.undo()
        self.assertEqual(shelf.names(), ["small"])

    def test_many(self):
        shelf = Shelf()
        for number in range(500):
            shelf.put("a", SMALL if number % 2 else LOCKING)
        self.assertEqual(shelf.changes(), 500)
        for number in range(500, 0, -1):
            self.assertIs(shelf["a"], LOCKING if number % 2 else SMALL)
            shelf.undo()
        self.assertEqual(told(shelf), ({}, 0))


class Trials(unittest.TestCase):
    def test_gives_the_shelf(self):
        shelf = filled()
        with shelf.trial() as tried:
            self.assertIs(tried, shelf)
        self.assertEqual(shelf.attempt(lambda tried: (tried is shelf, 5)), (True, 5))
        self.assertIsNone(shelf.attempt(visitor=lambda tried: None))

    def meddle(self, shelf):
        shelf["wrong"] = WRONG
        shelf.put("safe", KEPT)
        shelf.drop("small")

    def test_not_accepted(self):
        shelf = filled()
        before = told(shelf)
        with shelf.trial():
            self.meddle(shelf)
            self.assertEqual(told(shelf), ({"wrong": WRONG, "safe": KEPT}, 5))
            shelf.undo()
            self.assertEqual(shelf["small"], SMALL)
        self.assertEqual(told(shelf), before)
        shelf.attempt(self.meddle)
        self.assertEqual(told(shelf), before)
        with self.assertRaises(NotRight):
            shelf["wrong"] = WRONG

    def test_taken_back_beyond_the_beginning(self):
        shelf = filled()
        before = told(shelf)
        with shelf.trial():
            shelf.undo()
            shelf.undo()
            self.assertEqual(told(shelf), ({}, 0))
            with self.assertRaises(NothingToUndo):
                shelf.undo()
        self.assertEqual(told(shelf), before)
        with shelf.trial():
            shelf.undo()
            shelf.accept()
        self.assertEqual(told(shelf), ({"small": SMALL}, 3))
        shelf.undo()
        self.assertEqual(told(shelf), before)

    def test_accepted(self):
        shelf = filled()
        before = told(shelf)
        with shelf.trial():
            shelf["a"] = WRONG
            shelf["a"] = LOCKING
            shelf.drop("safe")
            shelf["b"] = SAFE
            self.assertIsNone(shelf.accept())
            self.assertEqual(shelf.changes(), 6)
        after = ({"small": SMALL, "a": LOCKING, "b": SAFE}, 3)
        self.assertEqual(told(shelf), after)
        shelf.undo()
        self.assertEqual(told(shelf), before)
        shelf.undo()
        self.assertEqual(told(shelf), ({"small": SMALL}, 1))

    def test_accepted_without_a_change(self):
        shelf = filled()
        with shelf.trial():
            shelf.accept()
        self.assertEqual(told(shelf), ({"small": SMALL, "safe": SAFE}, 3))
        shelf.undo()
        self.assertEqual(told(shelf), told(filled()))

    def test_accepted_twice(self):
        shelf = filled()
        with shelf.trial():
            shelf["a"] = SMALL
            shelf.accept()
            shelf["b"] = SMALL
            shelf.accept()
            shelf["c"] = WRONG
            shelf.drop("a")
        self.assertEqual(told(shelf), ({"small": SMALL, "safe": SAFE, "a": SMALL, "b": SMALL}, 3))
        shelf.undo()
        self.assertEqual(told(shelf), told(filled()))

    def test_accept_where_a_book_is_not_right(self):
        shelf = filled()
        with shelf.trial():
            shelf["a"] = SMALL
            shelf.accept()
            shelf["zoo"] = KEPT
            shelf["b"] = WRONG
            before = told(shelf)
            for _ in range(2):
                with self.assertRaises(NotRight) as caught:
                    shelf.accept()
                # The first one, ascending.
                self.assertIs(is_shown(WRONG, caught.exception.word, caught.exception.run), True)
                self.assertEqual(caught.exception.word, "touched")
            self.assertEqual(told(shelf), before)
            shelf.drop("b")
            with self.assertRaises(NotRight) as caught:
                shelf.accept()
            self.assertEqual(caught.exception.word, "kept")
        self.assertEqual(told(shelf), ({"small": SMALL, "safe": SAFE, "a": SMALL}, 3))

    def test_accept_book_by_book(self):
        many = picking.many_states(SAFE)
        shelf = Shelf(limit=many - 1)
        with shelf.trial():
            shelf["a"] = KEPT
            shelf["b"] = SAFE
            with self.assertRaises(NotRight):
                shelf.accept()
            shelf["a"], shelf["b"] = SAFE, KEPT
            with self.assertRaises(LimitExceeded):
                shelf.accept()

    def test_accept_outside(self):
        shelf = filled()
        with shelf.trial():
            pass
        for _ in range(2):
            with self.assertRaises(NothingToUndo) as caught:
                shelf.accept()
            self.assertEqual(caught.exception.name, "accept")
        self.assertEqual(told(shelf), told(filled()))

    def test_behind_an_error(self):
        shelf = filled()
        before = told(shelf)
        error = Stop()

        def visitor(tried):
            self.meddle(tried)
            raise error
        for function in (lambda: shelf.attempt(visitor), lambda: self.within(shelf, visitor)):
            with self.assertRaises(Stop) as caught:
                function()
            self.assertIs(caught.exception, error)
            self.assertEqual(told(shelf), before)
            with self.assertRaises(NotRight):
                shelf["wrong"] = WRONG

    def within(self, shelf, visitor):
        with shelf.trial() as tried:
            visitor(tried)

    def test_accepted_and_then_an_error(self):
        error = Stop()

        def visitor(tried):
            tried["a"] = LOCKING
            tried.accept()
            tried["b"] = WRONG
            raise error
        for run in (lambda shelf: shelf.attempt(visitor), lambda shelf: self.within(shelf, visitor)):
            shelf = filled()
            with self.assertRaises(Stop) as caught:
                run(shelf)
            self.assertIs(caught.exception, error)
            self.assertEqual(told(shelf), ({"small": SMALL, "safe": SAFE, "a": LOCKING}, 3))
            shelf.undo()
            self.assertEqual(told(shelf), told(filled()))

    def test_errors_of_its_own(self):
        shelf = filled()
        before = told(shelf)
        with self.assertRaises(NotRight):
            with shelf.trial():
                self.meddle(shelf)
                shelf.accept()
        self.assertEqual(told(shelf), before)
        with self.assertRaises(UnknownName):
            shelf.attempt(lambda tried: tried.drop("zoo"))
        self.assertEqual(told(shelf), before)

    def test_an_attempt_that_is_accepted(self):
        shelf = filled()

        def visitor(tried):
            tried.drop("safe")
            tried.accept()
            return tried.names()
        self.assertEqual(shelf.attempt(visitor), ["small"])
        self.assertEqual(told(shelf), ({"small": SMALL}, 3))


class TrialsWithinOneAnother(unittest.TestCase):
    def test_none_accepted(self):
        shelf = filled()
        levels = []
        with shelf.trial():
            shelf["a"] = WRONG
            levels.append(told(shelf))
            with shelf.trial():
                shelf["b"] = WRONG
                shelf.drop("a")
                levels.append(told(shelf))
                with self.assertRaises(Stop):
                    with shelf.trial():
                        shelf["c"] = WRONG
                        raise Stop()
                self.assertEqual(told(shelf), levels[1])
                shelf.attempt(lambda tried: tried.undo())
                self.assertEqual(told(shelf), levels[1])
            self.assertEqual(told(shelf), levels[0])
            # Still within a trial.
            shelf["d"] = KEPT
        self.assertEqual(told(shelf), told(filled()))
        with self.assertRaises(NotRight):
            shelf["d"] = KEPT

    def test_the_inner_one_accepted(self):
        shelf = filled()
        with shelf.trial():
            shelf["a"] = LOCKING
            with shelf.trial():
                shelf["b"] = LOCKING
                shelf["c"] = LOCKING
                shelf.accept()
                shelf.drop("a")
            self.assertEqual(told(shelf), ({"small": SMALL, "safe": SAFE, "a": LOCKING, "b": LOCKING, "c": LOCKING}, 4))
            shelf.undo()
            self.assertEqual(told(shelf), ({"small": SMALL, "safe": SAFE, "a": LOCKING}, 3))
        self.assertEqual(told(shelf), told(filled()))

    def test_both_accepted(self):
        shelf = filled()
        with shelf.trial():
            shelf["a"] = LOCKING
            shelf.accept()
            with shelf.trial():
                shelf["b"] = LOCKING
                shelf.accept()
            shelf["c"] = LOCKING
            shelf.accept()
        self.assertEqual(told(shelf), ({"small": SMALL, "safe": SAFE, "a": LOCKING, "b": LOCKING, "c": LOCKING}, 3))
        shelf.undo()
        self.assertEqual(told(shelf), told(filled()))

    def test_the_outer_one_accepted_ahead(self):
        shelf = filled()
        with shelf.trial():
            shelf["a"] = LOCKING
            shelf.accept()
            with shelf.trial():
                shelf["b"] = LOCKING
                shelf.accept()
            self.assertIn("b", shelf)
        self.assertEqual(told(shelf), ({"small": SMALL, "safe": SAFE, "a": LOCKING}, 3))

    def test_accept_looks_at_all_that_is_kept(self):
        shelf = filled()
        with shelf.trial():
            shelf["a"] = WRONG
            with shelf.trial():
                shelf["b"] = SMALL
                with self.assertRaises(NotRight):
                    shelf.accept()
                shelf.drop("a")
                shelf.accept()
            self.assertEqual(shelf.names(), ["b", "safe", "small"])
            shelf.undo()
            self.assertEqual(shelf.names(), ["a", "safe", "small"])
        self.assertEqual(told(shelf), told(filled()))

    def test_an_error_through_all(self):
        shelf = filled()
        with self.assertRaises(Stop):
            with shelf.trial():
                shelf["a"] = SMALL
                shelf.accept()
                with shelf.trial():
                    shelf["b"] = SMALL
                    shelf.accept()
                    shelf.attempt(self.stop)
        self.assertEqual(told(shelf), ({"small": SMALL, "safe": SAFE, "a": SMALL}, 3))
        with self.assertRaises(NothingToUndo):
            shelf.accept()

    def stop(self, shelf):
        shelf["zoo"] = WRONG
        raise Stop()

    def test_one_behind_the_other(self):
        shelf = filled()
        for number, name in enumerate("abc"):
            with shelf.trial():
                shelf[name] = SMALL
                shelf.accept()
            self.assertEqual(shelf.changes(), 3 + number)
        for names in (["a", "b"], ["a"], []):
            shelf.undo()
            self.assertEqual([name for name in shelf.names() if len(name) == 1], names)

    def test_two_shelves_within_one_another(self):
        first, second = filled(), filled()
        with first.trial():
            with second.trial():
                first["a"] = WRONG
                second["b"] = SMALL
                second.accept()
            self.assertEqual((first.names(), second.names()), (["a", "safe", "small"], ["b", "safe", "small"]))
        self.assertEqual((told(first), second.names()), (told(filled()), ["b", "safe", "small"]))

    def test_the_shelf_is_right_outside_of_trials(self):
        """Whatever is done, by chance, the books outside of trials are right, and undo goes back to what was."""
        chance = samples.Maker(21)
        shelf = Shelf()
        past = [told(shelf)]
        for _ in range(300):
            kind = chance.one_of(["put", "put", "drop", "undo", "trial", "trial"])
            name, book = chance.one_of("abcde"), chance.one_of([SMALL, SAFE, LOCKING, WRONG])
            if kind == "undo":
                if len(past) > 1:
                    shelf.undo()
                    past.pop()
            elif kind == "drop" and name in shelf:
                shelf.drop(name)
                past.append(told(shelf))
            elif kind == "put" and book is not WRONG:
                shelf.put(name, book)
                past.append(told(shelf))
            elif kind == "trial":
                self.tried(shelf, chance, past)
            self.assertEqual(told(shelf), past[-1])
            self.assertEqual(len(past), shelf.changes() + 1)
            self.assertFalse(any(shelf[other] is WRONG for other in shelf))

    def tried(self, shelf, chance, past):
        accepted = None
        with shelf.trial():
            for _ in range(chance.chance.randrange(5)):
                shelf.put(chance.one_of("abcde"), chance.one_of([SMALL, SAFE, LOCKING, WRONG]))
                if chance.may(30):
                    try:
                        shelf.accept()
                        accepted = told(shelf)[0]
                    except NotRight:
                        self.assertTrue(any(shelf[other] is WRONG for other in shelf))
        if accepted is not None:
            past.append((accepted, len(past)))


class Names(unittest.TestCase):
    def test_parameters(self):
        for function, names in ((Shelf.put, ["self", "name", "book"]), (Shelf.drop, ["self", "name"]),
                                (Shelf.words, ["self", "name"]), (Shelf.bound, ["self", "value"]),
                                (Shelf.attempt, ["self", "visitor"])):
            self.assertEqual(list(inspect.signature(function).parameters), names)


if __name__ == "__main__":
    unittest.main()
