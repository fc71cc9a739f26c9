import inspect
import unittest

import picking
import samples
from making import Maker
from odd import ODD, Refuses, Same, not_within
from samples import (DOWN, EMPTY, ENTER, HANDS, HOLD, LEAVE, LET, LOCK, LOCKED, LOOK, MARK, OUT, SOUND, TOUCH, TRY,
                     UNLOCK, USE, WAIT)

from pulledout.books import Book
from pulledout.errors import (InvalidBook, InvalidItem, InvalidNumber, InvalidOption, InvalidStep, LimitExceeded,
                              NotRight)
from pulledout.faults import is_right, is_shown
from pulledout.least import Options, least_steps, needed_steps
from pulledout.rows import HandRow, PullRow

BARE = (LOOK, TRY, LET)
START = (LOOK, TRY, ("start", "job"), LET)
BARRED = (OUT, ("bar", "job"), ("forget", "job"), ("idle", "job"), DOWN, LET)
SAFE = Book(HANDS, puller=SOUND)
EARLY = Book(HANDS, puller=(OUT, WAIT, MARK, DOWN, LET))
WORKING = Book(START, {"job": (TOUCH,)}, puller=BARRED)
TWO_WAYS = Book(HANDS, puller=(MARK, WAIT, EMPTY, DOWN, LET))
# Seven steps, and right.
SEVEN = Book(START, {"job": (TOUCH,)}, puller=BARRED[:4] + (EMPTY,) + BARRED[4:])
LOCKING = Book(LOCKED + (TOUCH, LET), puller=(LOCK, OUT, UNLOCK, EMPTY, DOWN, LET))
LOCKING_TWICE = Book(LOCKED + (LET,), puller=(LOCK, OUT, UNLOCK, LOCK, UNLOCK, LET))
# Only with all of its steps does it come to its end with the record freed.
STRICT = Book(LOCKED + (LET,), puller=(LOCK, OUT, UNLOCK, LET))


def drawn(many, longest=5):
    told = []
    seed = 0
    while len(told) < many:
        seed += 1
        maker = Maker(seed)
        hands, works, puller = maker.book(seed % 2, many=4)
        if maker.may(60):
            hands = maker.one_of([HANDS, BARE, LOCKED + (TOUCH, LET), (LOOK, TRY, ENTER, TOUCH, LEAVE, LET)])
            puller = maker.one_of([(OUT, MARK, WAIT, DOWN, LET), (MARK, WAIT, EMPTY, DOWN, LET), (OUT, LET),
                                   (LOCK, OUT, UNLOCK, EMPTY, LET), (EMPTY, WAIT, LET, DOWN)])
            works = {}
        book = Book(hands, works, puller=puller[:longest])
        if picking.many_states(book) < 120:
            told.append(book)
    return told


def with_steps(book, chosen):
    """The book with these steps alone, or None if there is none."""
    steps = tuple(book.puller[index] for index in chosen)
    return book.changed(puller=steps) if picking.is_puller(steps) else None


def works(book):
    return book is not None and is_right(book, limit=100000)


class LeastSteps(unittest.TestCase):
    def test_against_all_sets(self):
        seen = {}
        for book in drawn(100) + [SAFE, EARLY, TWO_WAYS, LOCKING, WORKING, LOCKING_TWICE, STRICT]:
            known = picking.least(picking.sets_of(len(book.puller)), lambda chosen: works(with_steps(book, chosen)))
            told = least_steps(book)
            self.assertIsInstance(told, list)
            self.assertEqual(told, known)
            seen[len(told)] = seen.get(len(told), 0) + 1
        self.assertGreater(min(seen[0], seen[1]), 10)
        self.assertGreater(max(seen), 2)

    def test_named(self):
        self.assertEqual(least_steps(SAFE), [(4,)])
        self.assertEqual(least_steps(TWO_WAYS), [(4,)])
        self.assertEqual(least_steps(SAFE.changed(puller=(OUT, MARK, WAIT, DOWN))), [])
        self.assertEqual(least_steps(SAFE.changed(puller=())), [])
        self.assertEqual(least_steps(Book((LOOK, HOLD, LET), puller=(OUT, LET))), [])
        self.assertEqual(least_steps(Book(BARE, puller=(WAIT, LET, WAIT))), [(1,)])
        self.assertEqual(least_steps(LOCKING), [(0, 1, 2, 5)])

    def test_several(self):
        self.assertEqual(least_steps(LOCKING_TWICE), [(0, 1, 2, 5), (0, 1, 4, 5), (1, 3, 4, 5)])
        self.assertEqual(least_steps(Book(BARE, puller=(WAIT, LET))), [(1,)])

    def test_right_with_more_and_with_fewer(self):
        # A let by itself is right, and each set with a down behind it and no wait ahead is not.
        self.assertIs(is_right(SAFE.changed(puller=(DOWN, LET))), False)
        self.assertIs(is_right(SAFE.changed(puller=(LET,))), True)
        self.assertNotIn((0, 1, 2, 3, 4), least_steps(SAFE))

    def test_sets_that_are_no_row(self):
        book = Book(BARE, puller=(LOCK, UNLOCK, LOCK, UNLOCK, LET))
        self.assertEqual(least_steps(book), [(4,)])
        self.assertEqual(least_steps(Book(LOCKED + (LET,), puller=(OUT, LOCK, UNLOCK, LET))), [(0, 1, 2, 3)])

    def test_six_and_seven(self):
        self.assertEqual(least_steps(WORKING)[0], (5,))
        for book in (SEVEN, SAFE.changed(puller=(WAIT,) * 9)):
            for limit in (1, 6000):
                with self.assertRaises(LimitExceeded) as caught:
                    least_steps(book, limit=limit)
                self.assertEqual(caught.exception.limit, 6)

    def test_no_limits(self):
        for book in (SAFE, SEVEN):
            for value in not_within(1, 100000):
                with self.assertRaises(InvalidNumber) as caught:
                    least_steps(book, limit=value)
                self.assertIs(caught.exception.value, value)

    def test_just_as_many_states_and_one_fewer(self):
        spared = 0
        for book in drawn(40) + [SAFE, EARLY, TWO_WAYS, LOCKING]:
            told = least_steps(book)
            looked = picking.looked_at(picking.sets_of(len(book.puller)), told)
            tables = [with_steps(book, chosen) for chosen in looked]
            many = max(picking.many_states(table) for table in tables if table is not None)
            self.assertEqual(least_steps(book, limit=many), told)
            spared += picking.many_states(book) > many
            if many > 1:
                with self.assertRaises(LimitExceeded) as caught:
                    least_steps(book, limit=many - 1)
                self.assertEqual(caught.exception.limit, many - 1)
        # Sets that have a least one within them are not looked at, however many states they need.
        self.assertGreater(spared, 5)

    def test_by_name(self):
        self.assertEqual(least_steps(book=SAFE, limit=500), least_steps(SAFE))
        self.assertEqual(needed_steps(book=SAFE, limit=500), needed_steps(SAFE))
        for function in (least_steps, needed_steps):
            with self.assertRaises(TypeError):
                function(SAFE, 500)
            self.assertEqual(inspect.signature(function).parameters["limit"].default, 6000)

    def test_new_lists(self):
        told = least_steps(SAFE)
        least_steps(SAFE).clear()
        self.assertEqual(least_steps(SAFE), told)


class NeededSteps(unittest.TestCase):
    def check(self, book):
        told = needed_steps(book)
        self.assertIsInstance(told, dict)
        steps = book.puller.parts
        known = [index for index, step in enumerate(steps) if step not in (LOCK, UNLOCK)
                 and not is_right(book.changed(puller=steps[:index] + steps[index + 1:]))]
        self.assertEqual(list(told), known)
        for index, shown in told.items():
            self.assertIsInstance(shown, tuple)
            word, run = shown
            self.assertLessEqual(run.hands, 1)
            self.assertIs(is_shown(book.changed(puller=steps[:index] + steps[index + 1:]), word, run), True)
        return known

    def test_named(self):
        self.assertEqual(self.check(SAFE), [1, 2, 4])
        self.assertEqual(self.check(LOCKING), [1, 3, 5])
        self.assertEqual(self.check(WORKING), [1, 2, 3, 5])
        self.assertEqual(self.check(SEVEN), [1, 2, 3, 6])
        self.assertEqual(self.check(Book(BARE, puller=(LET,))), [0])
        self.assertEqual(self.check(SAFE.changed(puller=(MARK, WAIT, WAIT, DOWN, LET))), [0, 4])

    def test_a_mark_that_is_called_lock(self):
        for name in ("lock", "unlock"):
            hands = (LOOK, TRY, ENTER, ("ask", name, (LEAVE, LET)), TOUCH, LEAVE, LET)
            self.assertEqual(self.check(Book(hands, puller=(("mark", name), WAIT, DOWN, LET))), [0, 1, 3])

    def test_drawn(self):
        right = [book for book in drawn(150) if is_right(book)]
        self.assertGreater(len(right), 20)
        for book in right:
            self.check(book)

    def test_nine_steps(self):
        self.assertEqual(self.check(SAFE.changed(puller=(OUT, MARK) + (WAIT,) * 5 + (DOWN, LET))), [1, 8])

    def test_books_that_are_not_right(self):
        for book in (EARLY, SAFE.changed(puller=()), Book((LOOK, HOLD, LET), puller=(OUT, LET))):
            with self.assertRaises(NotRight) as caught:
                needed_steps(book)
            self.assertLessEqual(caught.exception.run.hands, 1)
            self.assertIs(is_shown(book, caught.exception.word, caught.exception.run), True)

    def test_no_limits(self):
        for book in (SAFE, EARLY, SEVEN):
            for value in not_within(1, 100000):
                with self.assertRaises(InvalidNumber) as caught:
                    needed_steps(book, limit=value)
                self.assertIs(caught.exception.value, value)

    def test_just_as_many_states_and_one_fewer(self):
        for book in (SAFE, LOCKING, WORKING, SEVEN, TWO_WAYS):
            steps = book.puller.parts
            tables = [book] + [book.changed(puller=steps[:index] + steps[index + 1:])
                               for index, step in enumerate(steps) if step not in (LOCK, UNLOCK)]
            many = max(picking.many_states(table) for table in tables)
            self.assertEqual(needed_steps(book, limit=many), needed_steps(book))
            with self.assertRaises(LimitExceeded) as caught:
                needed_steps(book, limit=many - 1)
            self.assertEqual(caught.exception.limit, many - 1)

    def test_a_book_without_a_step_that_needs_more(self):
        grown = 0
        for book in (SAFE, LOCKING, WORKING, SEVEN, TWO_WAYS, Book(LOCKED + (TOUCH, LET), puller=(EMPTY, LOCK, OUT, UNLOCK, LET))):
            own = picking.many_states(book)
            steps = book.puller.parts
            others = [picking.many_states(book.changed(puller=steps[:index] + steps[index + 1:]))
                      for index, step in enumerate(steps) if step not in (LOCK, UNLOCK)]
            if max(others) > own:
                grown += 1
                with self.assertRaises(LimitExceeded):
                    needed_steps(book, limit=own)
        self.assertGreater(grown, 0)

    def test_the_limit_ahead_of_not_right(self):
        many = picking.many_states(EARLY)
        with self.assertRaises(LimitExceeded):
            needed_steps(EARLY, limit=many - 1)
        with self.assertRaises(NotRight):
            needed_steps(EARLY, limit=many)

    def test_new_dicts(self):
        told = needed_steps(SAFE)
        needed_steps(SAFE).clear()
        self.assertEqual(needed_steps(SAFE), told)


HANDS_OPTION = ("hands", HANDS)
BARE_OPTION = ("hands", BARE)
WORK_OPTION = ("works", "job", (USE,))
PULL_OPTION = ("puller", (LET,))
SOUND_OPTION = ("puller", SOUND)
NO_OPTIONS = ODD + (("hands",), ("hands", list(BARE)), ["hands", BARE], ("hands", None), ("hands", HandRow(*BARE)),
                    ("hand", BARE), ("puller", list(SOUND)), ("puller", PullRow(*SOUND)), ("puller", SOUND, None),
                    ("puller", "job", SOUND), ("hands", "job", BARE), ("works", (USE,)), ("works", "tick", (USE,)),
                    ("works", "Job", (USE,)), ("works", None, (USE,)), ("works", "job", [USE]), ("works", "job"),
                    ("works", Same(), (USE,)), ("works", Refuses(), (USE,)), (Same(), BARE), (Refuses(), BARE),
                    ("works", ("job",), (USE,)), (b"hands", BARE), "hands", ("works", "job", (USE,), ()))
# Options that have a form but make no book: with the kind of the cause.
BAD_OPTIONS = ((("hands", ()), InvalidItem), (("hands", (LOOK, LET)), InvalidItem), (("hands", BARE + (LET,)), InvalidItem),
               (("hands", (None,)), InvalidItem), (("hands", (LOOK, TRY, list(LET))), InvalidItem),
               (("works", "job", ()), InvalidItem), (("works", "job", (LET,)), InvalidItem), (("works", "job", (Same(),)), InvalidItem),
               (("puller", (None,)), InvalidStep), (("puller", (OUT, OUT)), InvalidStep), (("puller", (UNLOCK,)), InvalidStep),
               (("puller", (WAIT,) * 10), InvalidStep), (("puller", BARE), InvalidStep),
               (("hands", (LOOK, TRY, ("start", "tick"), LET)), InvalidBook), (("puller", (("bar", "tick"), LET)), InvalidBook),
               (("works", "job", (("start", "tick"),)), InvalidBook),
               (("puller", tuple(("mark", name) for name in ("a", "b", "c", "d"))), InvalidBook))


class Making(unittest.TestCase):
    def test_options(self):
        options = Options(WORKING, HANDS_OPTION, BARE_OPTION, WORK_OPTION)
        self.assertEqual((options.book, len(options)), (WORKING, 3))
        self.assertEqual([options[index] for index in range(3)], [HANDS_OPTION, BARE_OPTION, WORK_OPTION])
        self.assertEqual(list(options), [HANDS_OPTION, BARE_OPTION, WORK_OPTION])
        self.assertEqual((len(Options(book=SAFE)), list(Options(SAFE))), (0, []))

    def test_one_by_one(self):
        options = Options(WORKING)
        self.assertIsNone(options.add(PULL_OPTION))
        self.assertIsNone(options.add(option=WORK_OPTION))
        kept = options
        options += HANDS_OPTION
        self.assertIs(options, kept)
        options += HANDS_OPTION
        self.assertEqual(list(options), [PULL_OPTION, WORK_OPTION, HANDS_OPTION, HANDS_OPTION])

    def test_a_sixth_one(self):
        five = [HANDS_OPTION, BARE_OPTION, WORK_OPTION, PULL_OPTION, SOUND_OPTION]
        options = Options(WORKING, *five)

        def grow(option):
            nonlocal options
            options += option
        for function in (options.add, grow, lambda option: Options(WORKING, *five, option),
                         lambda option: Options(WORKING, *five, option, None)):
            with self.assertRaises(LimitExceeded) as caught:
                function(HANDS_OPTION)
            self.assertEqual(caught.exception.limit, 5)
            for option in (None, BAD_OPTIONS[0][0]):
                with self.assertRaises(InvalidOption) as caught:
                    function(option)
                self.assertIs(caught.exception.value, option)
        self.assertEqual(list(options), five)

    def test_options_that_are_none(self):
        for option in NO_OPTIONS:
            options = Options(WORKING, BARE_OPTION)
            for function in (options.add, options.__iadd__, lambda option: Options(WORKING, option),
                             lambda option: Options(WORKING, BARE_OPTION, option, None)):
                with self.assertRaises(InvalidOption) as caught:
                    function(option)
                self.assertIs(caught.exception.value, option)
                self.assertIsNone(caught.exception.__cause__)
            self.assertEqual(list(options), [BARE_OPTION])

    def test_causes(self):
        for option, kind in BAD_OPTIONS:
            options = Options(WORKING, BARE_OPTION)
            for function in (options.add, options.__iadd__, lambda option: Options(WORKING, option)):
                with self.assertRaises(InvalidOption) as caught:
                    function(option)
                self.assertIs(caught.exception.value, option)
                self.assertIs(type(caught.exception.__cause__), kind, option)
            self.assertEqual(len(options), 1)

    def test_what_the_causes_tell(self):
        def cause(option):
            with self.assertRaises(InvalidOption) as caught:
                Options(WORKING, option)
            return caught.exception.__cause__
        self.assertEqual(cause(("hands", (LOOK, TRY, ENTER, LET))).number, 3)
        self.assertEqual(cause(("works", "job", (USE, UNLOCK))).number, 1)
        self.assertEqual(cause(("puller", (OUT, MARK, UNLOCK))).index, 2)
        told = cause(("hands", (LOOK, TRY, ("start", "tick"), LET)))
        self.assertEqual((told.part, told.name), ("hands", "tick"))
        told = cause(("puller", (("idle", "tick"),)))
        self.assertEqual((told.part, told.name), ("puller", "tick"))
        self.assertEqual(cause(("puller", tuple(("mark", name) for name in "abcd"))).part, "marks")

    def test_no_works(self):
        with self.assertRaises(InvalidOption) as caught:
            Options(SAFE, WORK_OPTION)
        self.assertIsNone(caught.exception.__cause__)

    def test_no_indexes(self):
        options = Options(WORKING, BARE_OPTION, PULL_OPTION)
        for value in not_within(0, 1):
            with self.assertRaises(InvalidNumber) as caught:
                options[value]
            self.assertIs(caught.exception.value, value)
        with self.assertRaises(InvalidNumber):
            Options(WORKING)[0]

    def test_members(self):
        options = Options(WORKING, BARE_OPTION, WORK_OPTION)
        for option in (BARE_OPTION, ("hands", tuple(list(BARE))), WORK_OPTION):
            self.assertIs(option in options, True)
        for value in NO_OPTIONS + (HANDS_OPTION, PULL_OPTION, ("works", "job", (TOUCH,)), ("hands", (Same(),) * 3),
                                   ("hands", (Refuses(),) * 3), ("hands", (LOOK, TRY, Same())), ("works", "job", (Same(),)),
                                   ("works", "job", (Refuses(),)), ("puller", (Same(),))):
            self.assertIs(value in options, False)
        self.assertIs(SOUND_OPTION in Options(WORKING, SOUND_OPTION), True)
        self.assertIs(("puller", (Same(),) * 5) in Options(WORKING, SOUND_OPTION), False)
        self.assertIs(("puller", SOUND[:4] + (Same(),)) in Options(WORKING, SOUND_OPTION), False)

    def test_new_lists(self):
        options = Options(WORKING, BARE_OPTION, WORK_OPTION)
        told = list(options)
        told.clear()
        self.assertEqual(len(options), 2)
        choices = options.least_changes()
        options.least_changes().clear()
        self.assertEqual(options.least_changes(), choices)


class Choices(unittest.TestCase):
    def setUp(self):
        self.options = Options(WORKING, HANDS_OPTION, BARE_OPTION, WORK_OPTION, PULL_OPTION, ("works", "job", (TOUCH,)))

    def test_choices(self):
        parts = [0, 0, 1, 2, 1]
        for chosen in picking.sets_of(5):
            is_one = len({parts[index] for index in chosen}) == len(chosen)
            self.assertIs(self.options.is_choice(chosen), is_one)
            self.assertIs(self.options.is_choice(value=chosen[::-1]), is_one and len(chosen) < 2)
        self.assertIs(Options(WORKING).is_choice(()), True)
        self.assertIs(Options(WORKING).is_choice((0,)), False)

    def test_works_are_parts_of_their_own(self):
        book = WORKING.changed(works={"job": (TOUCH,), "tick": (USE,)})
        options = Options(book, ("works", "job", (USE,)), ("works", "tick", (TOUCH,)), ("works", "tick", (USE, USE)))
        self.assertEqual([options.is_choice(chosen) for chosen in ((0, 1), (0, 2), (1, 2))], [True, True, False])
        changed = options.changed((0, 1))
        self.assertEqual((changed["job"].parts, changed["tick"].parts), ((USE,), (TOUCH,)))

    def test_no_choices(self):
        # These two are choices.
        odd = tuple(value for value in ODD if repr(value) not in ("()", "(0,)"))
        for value in odd + ((0, 0), (2, 0), (0, 1), (5,), (-1,), (True,), (False,), (0, True), [0], [], 0, (0.0,), ("0",),
                            (None,), (0, None), ((0,),), (Same(),), (Refuses(),), {0: 1}, range(1)):
            self.assertIs(self.options.is_choice(value), False, value)
            with self.assertRaises(InvalidNumber) as caught:
                self.options.changed(value)
            self.assertIs(caught.exception.value, value)

    def test_changed(self):
        self.assertEqual(self.options.changed(()), WORKING)
        self.assertEqual(self.options.changed((1,)), WORKING.changed(hands=BARE))
        self.assertEqual(self.options.changed((2,)), WORKING.changed(works={"job": (USE,)}))
        self.assertEqual(self.options.changed(chosen=(0, 2, 3)), Book(HANDS, {"job": (USE,)}, puller=(LET,)))
        self.assertEqual(self.options.changed((3, 4)), WORKING.changed(puller=(LET,)))
        self.assertEqual((self.options.book, len(self.options)), (WORKING, 5))

    def test_changes_that_make_no_book_together(self):
        asks = tuple(("ask", name, (LET,)) for name in ("a", "b"))
        options = Options(SAFE.changed(hands=BARE, puller=(LET,)), ("hands", (LOOK, TRY) + asks + (LET,)),
                          ("puller", (("mark", "c"), ("mark", "d"), LET)), ("puller", (("mark", "b"), LET)))
        with self.assertRaises(InvalidBook) as caught:
            options.changed((0, 1))
        self.assertEqual((caught.exception.part, caught.exception.name), ("marks", None))
        self.assertEqual(options.changed((0, 2)).marks(), ["a", "b"])
        self.assertEqual(options.least_changes(), [()])


class LeastChanges(unittest.TestCase):
    def known(self, options, many):
        choices = [chosen for chosen in picking.sets_of(many) if options.is_choice(chosen)]

        def changed(chosen):
            try:
                return options.changed(chosen)
            except InvalidBook:
                return None
        return choices, picking.least(choices, lambda chosen: works(changed(chosen))), changed

    def drawn(self, many):
        told = []
        seed = 0
        while len(told) < many:
            seed += 1
            maker = Maker(seed)
            pieces = [maker.book(1, many=3) for _ in range(4)]
            book = samples.made(pieces[0])
            rows = [("hands", piece[0]) for piece in pieces[1:]] + [("puller", piece[2]) for piece in pieces[1:]]
            rows += [("works", "job", piece[1]["job"]) for piece in pieces[1:]]
            rows += [("hands", BARE), SOUND_OPTION, ("works", "job", (USE,)), ("puller", BARRED), HANDS_OPTION]
            try:
                options = Options(book, *maker.chance.sample(rows, 5))
            except InvalidOption:
                continue
            choices, _, changed = self.known(options, 5)
            if len(book.puller) < 7 and all(changed(chosen) is None or picking.many_states(changed(chosen)) < 150
                                            for chosen in choices):
                told.append(options)
        return told

    def test_against_all_choices(self):
        seen = {}
        for options in self.drawn(50):
            told = options.least_changes()
            self.assertIsInstance(told, list)
            self.assertEqual(told, self.known(options, 5)[1])
            seen[len(told)] = seen.get(len(told), 0) + 1
        self.assertGreater(min(seen[0], seen[1], seen[2]), 2)

    def test_named(self):
        options = Options(EARLY, SOUND_OPTION, ("puller", (LET,)), ("hands", BARE), ("puller", (OUT, DOWN)))
        self.assertEqual(options.least_changes(), [(0,), (1,), (2,)])
        self.assertEqual(Options(EARLY, ("puller", (OUT, DOWN))).least_changes(), [])
        self.assertEqual(Options(EARLY).least_changes(), [])
        self.assertEqual(Options(SAFE, SOUND_OPTION, BARE_OPTION).least_changes(), [()])
        two = Book((LOOK, HOLD, TOUCH, LET), puller=(OUT, DOWN, LET))
        options = Options(two, ("hands", LOCKED + (TOUCH, LET)), ("puller", (LOCK, OUT, UNLOCK, EMPTY, DOWN, LET)),
                          ("hands", BARE), ("puller", (DOWN,)))
        self.assertEqual(options.least_changes(), [(2,), (0, 1)])

    def test_choices_that_make_no_book(self):
        asks = tuple(("ask", name, (LET,)) for name in ("a", "b"))
        options = Options(Book((LOOK, TRY, TOUCH, LET), puller=(DOWN, LET)), ("hands", (LOOK, TRY) + asks + (LET,)),
                          ("puller", (("mark", "c"), ("mark", "d"))), ("puller", (("mark", "a"), DOWN)))
        self.assertEqual(options.least_changes(), [(0,)])

    def test_choices_that_are_looked_at_and_make_no_book(self):
        asks = tuple(("ask", name, (LET,)) for name in ("a", "b"))
        options = Options(Book(BARE, puller=()), ("hands", (LOOK, TRY) + asks + (LET,)),
                          ("puller", (("mark", "c"), ("mark", "d"))), PULL_OPTION)
        with self.assertRaises(InvalidBook):
            options.changed((0, 1))
        self.assertEqual(options.least_changes(), [(2,)])

    def test_no_limits(self):
        for options in (Options(SAFE, PULL_OPTION), Options(SEVEN), Options(EARLY)):
            for value in not_within(1, 100000):
                with self.assertRaises(InvalidNumber) as caught:
                    options.least_changes(limit=value)
                self.assertIs(caught.exception.value, value)

    def test_more_than_six_steps(self):
        for options in (Options(SEVEN), Options(SEVEN, PULL_OPTION)):
            for limit in (1, 6000):
                with self.assertRaises(LimitExceeded) as caught:
                    options.least_changes(limit=limit)
                self.assertEqual(caught.exception.limit, 6)
        # What an option tells may be longer.
        self.assertEqual(Options(EARLY, ("puller", (OUT, MARK) + (WAIT,) * 5 + (DOWN, LET))).least_changes(), [(0,)])

    def test_just_as_many_states_and_one_fewer(self):
        for options in self.drawn(25) + [Options(EARLY, SOUND_OPTION, BARE_OPTION), Options(SAFE, BARE_OPTION)]:
            choices, known, changed = self.known(options, len(options))
            tables = [changed(chosen) for chosen in picking.looked_at(choices, known)]
            many = max(picking.many_states(table) for table in tables if table is not None)
            self.assertEqual(options.least_changes(limit=many), known)
            with self.assertRaises(LimitExceeded) as caught:
                options.least_changes(limit=many - 1)
            self.assertEqual(caught.exception.limit, many - 1)
            self.assertEqual(options.least_changes(), known)

    def test_choices_that_are_not_looked_at(self):
        options = Options(SAFE.changed(puller=(LET,)), ("puller", SOUND), HANDS_OPTION)
        many = picking.many_states(options.book)
        self.assertLess(many, picking.many_states(SAFE))
        self.assertEqual(options.least_changes(limit=many), [()])

    def test_by_name(self):
        options = Options(EARLY, SOUND_OPTION)
        self.assertEqual(options.least_changes(limit=400), [(0,)])
        with self.assertRaises(TypeError):
            options.least_changes(400)
        self.assertEqual(inspect.signature(options.least_changes).parameters["limit"].default, 6000)
        self.assertEqual(least_steps(SAFE), least_steps(book=SAFE))


if __name__ == "__main__":
    unittest.main()
