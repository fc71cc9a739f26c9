import unittest

from making import Maker
from odd import ODD, Refuses, Same

from pulledout.books import Book
from pulledout.errors import InvalidBook, InvalidItem, InvalidStep, UnknownName
from pulledout.rows import HandRow, PullRow, WorkRow

LOOK, HOLD, LET, USE = ("look",), ("hold",), ("let",), ("use",)
OUT, MARK = ("out",), ("mark", "gone")
HANDS = (LOOK, HOLD, ("ask", "gone", (LET,)), LET)
STARTING = (LOOK, HOLD, ("start", "job"), ("ask", "dead", (("start", "tick"), LET)), LET)
JOB = (("touch",), ("ask", "gone", (("use",),)))
TICK = (("start", "job"), ("ask", "late", (("start", "tick"),)))
STEPS = (OUT, MARK, ("wait",), ("bar", "job"))


def starts(*names):
    return (LOOK, HOLD) + tuple(("start", name) for name in names) + (LET,)


def asks(*marks):
    return tuple(("ask", mark, ()) for mark in marks)


class Refused(unittest.TestCase):
    def refused(self, part, name, hands=HANDS, works=None, puller=(), cause=None):
        with self.assertRaises(InvalidBook, msg=(hands, works, puller)) as caught:
            Book(hands, works, puller=puller)
        self.assertEqual((caught.exception.part, caught.exception.name), (part, name))
        if cause is None:
            self.assertIsNone(caught.exception.__cause__)
        else:
            self.assertEqual((caught.exception.__cause__.__class__, caught.exception.__cause__.__dict__), cause)
        with self.assertRaises(InvalidBook) as again:
            Book(puller=puller, works=works, hands=hands)
        self.assertEqual((again.exception.part, again.exception.name), (part, name))


class Hands(Refused):
    def test_tuples_that_are_no_row(self):
        for hands, number in (((), None), ((LOOK,), None), ((LOOK, HOLD, "use"), 2), ((LOOK, HOLD, ("leave",)), 2),
                              ((HOLD,), 0), ((LOOK, HOLD) + (USE,) * 13, None)):
            self.refused("hands", None, hands=hands, cause=(InvalidItem, {"number": number}))

    def test_other_kinds(self):
        for hands in (None, True, 0, "", "look", list(HANDS), [], {}, {LOOK}, WorkRow(USE), PullRow(OUT), Same(),
                      Refuses(), object(), HandRow):
            self.refused("hands", None, hands=hands)


class Works(Refused):
    def test_no_dicts(self):
        for works in (True, False, 0, "", "job", (), [], [("job", JOB)], {"job"}, ("job", JOB), Same(), Refuses(),
                      WorkRow(USE), Book(HANDS, puller=())):
            self.refused("works", None, works=works)

    def test_too_many(self):
        self.refused("works", None, works={"a": JOB, "b": JOB, "c": JOB})
        self.assertEqual(len(Book(HANDS, {"a": JOB, "b": JOB}, puller=())), 2)

    def test_no_names(self):
        for name in (None, True, 0, 1, "", "Job", "a b", "abcdefghi", b"job", ("job",), ()):
            self.refused("works", None, works={name: JOB})
            self.refused("works", None, works={"job": JOB, name: JOB})
            self.refused("works", None, works={name: JOB, "job": "none"})

    def test_tuples_that_are_no_row(self):
        for row, number in (((), None), ((LOOK,), 0), ((USE, LET), 1), ((USE, None), 1), ((("lock",),), 0),
                            ((USE,) * 15, None)):
            self.refused("works", "job", works={"job": row}, cause=(InvalidItem, {"number": number}))
            self.refused("works", "b", works={"b": row, "a": JOB}, cause=(InvalidItem, {"number": number}))

    def test_other_kinds(self):
        for row in (None, True, 0, "", "use", [USE], [], {}, HandRow(*HANDS), PullRow(OUT), Same(), Refuses()):
            self.refused("works", "job", works={"job": row})

    def test_first_name_ascending(self):
        for works in ({"b": (), "a": (LET,)}, {"a": (LET,), "b": ()}):
            self.refused("works", "a", works=works, cause=(InvalidItem, {"number": 0}))
        self.refused("works", "aa", works={"b": None, "aa": []})


class Puller(Refused):
    def test_tuples_that_are_no_row(self):
        for puller, index in (((None,), 0), ((OUT, OUT), 1), ((OUT, ("unlock",)), 1), ((("wait",),) * 10, None),
                              ((OUT, LOOK), 1)):
            self.refused("puller", None, puller=puller, cause=(InvalidStep, {"index": index}))

    def test_other_kinds(self):
        for puller in (None, True, 0, "", "out", [OUT], [], {}, HandRow(*HANDS), WorkRow(("lock",), ("unlock",)),
                       Same(), Refuses()):
            self.refused("puller", None, puller=puller)


class Named(Refused):
    def test_in_the_hands_row(self):
        self.refused("hands", "job", hands=starts("job"))
        self.refused("hands", "job", hands=starts("job"), works={"tick": JOB})
        self.refused("hands", "a", hands=starts("b", "a"))
        self.refused("hands", "a", hands=starts("b", "c", "a"), works={"b": JOB})
        self.refused("hands", "tick", hands=STARTING, works={"job": JOB})
        self.refused("hands", "job", hands=HandRow(*STARTING), works={"tick": (USE,)})

    def test_in_the_works_rows(self):
        self.refused("works", "job", works={"tick": TICK})
        self.refused("works", "gone", works={"tick": (("ask", "gone", (("start", "gone"),)),)})
        self.refused("works", "a", works={"job": (("start", "b"), ("start", "a"))})
        self.refused("works", "b", works={"job": (("start", "b"),), "tick": (("start", "a"),)})
        self.refused("works", "b", works={"tick": (("start", "a"),), "job": (("start", "b"),)})
        self.refused("works", "a", works={"job": WorkRow(("start", "job")), "tick": WorkRow(("start", "a"))})

    def test_in_the_pullers_row(self):
        for word in ("bar", "forget", "idle"):
            self.refused("puller", "job", puller=((word, "job"),))
            self.refused("puller", "job", works={"tick": JOB}, puller=((word, "tick"), (word, "job")))
            self.refused("puller", "b", puller=(OUT, (word, "b"), ("bar", "a")))
            self.refused("puller", "b", puller=PullRow((word, "b")))

    def test_named_and_there(self):
        book = Book(STARTING, {"job": JOB, "tick": TICK}, puller=(("bar", "job"), ("forget", "tick"), ("idle", "job")))
        self.assertEqual(book.works(), ["job", "tick"])

    def test_marks_are_no_works(self):
        book = Book(HANDS, puller=(MARK,))
        self.assertEqual((book.works(), book.marks()), ([], ["gone"]))


class Marks(Refused):
    def test_three(self):
        book = Book((LOOK, HOLD) + asks("c", "a", "c", "a"), {"job": asks("a", "b")}, puller=(("mark", "b"),))
        self.assertEqual(book.marks(), ["a", "b", "c"])

    def test_none(self):
        self.assertEqual(Book((LOOK, HOLD), puller=()).marks(), [])

    def test_more_than_three(self):
        self.refused("marks", None, hands=(LOOK, HOLD) + asks("a", "b", "c", "d"))
        self.refused("marks", None, works={"job": asks("a", "b", "c")})
        self.refused("marks", None, works={"job": asks("a"), "tick": asks("b", "c")})
        self.refused("marks", None, puller=(("mark", "a"), ("mark", "b"), ("mark", "c")))
        self.refused("marks", None, works={"job": asks("a", "b")}, puller=(("mark", "c"),))
        self.refused("marks", None, hands=HandRow(LOOK, HOLD, *asks("a", "b")), puller=(("mark", "c"), ("mark", "d")))

    def test_from_each_part(self):
        self.assertEqual(Book(HANDS, puller=()).marks(), ["gone"])
        self.assertEqual(Book((LOOK, HOLD), {"job": asks("a"), "tick": asks("b")}, puller=()).marks(), ["a", "b"])
        self.assertEqual(Book((LOOK, HOLD), puller=(("mark", "z"), ("mark", "y"))).marks(), ["y", "z"])


class TwoAtATime(Refused):
    # Each refusal alone, in the order told: the part and name, and what brings it about.
    REFUSALS = ((("hands", None), "hands", (LOOK,)),
                (("works", None), "works", {"Job": JOB}),
                (("works", "job"), "works", {"job": (LET,)}),
                (("puller", None), "puller", ("out",)),
                (("hands", "gone"), "hands", starts("gone")),
                (("works", "gone"), "works", {"job": (("start", "gone"),)}),
                (("puller", "gone"), "puller", (("bar", "gone"),)),
                (("marks", None), "marks", ("a", "b", "c", "d")))

    def made(self, *refusals):
        told = {"hands": HANDS, "works": {"job": JOB}, "puller": (OUT,)}
        for _, part, value in refusals:
            if part != "marks":
                told[part] = value
        for _, part, value in refusals:
            if part == "marks" and told["hands"] == HANDS:
                told["hands"] = (LOOK, HOLD) + asks(*value)
            elif part == "marks":
                told["works"] = {"job": asks(*value)}
        return told

    def test_alone(self):
        for refusal in self.REFUSALS:
            with self.assertRaises(InvalidBook) as caught:
                Book(**self.made(refusal))
            self.assertEqual((caught.exception.part, caught.exception.name), refusal[0])

    def test_the_earlier_one_is_raised(self):
        for at, first in enumerate(self.REFUSALS):
            for second in self.REFUSALS[at + 1:]:
                if first[1] == second[1]:
                    continue
                for told in (self.made(first, second), self.made(second, first)):
                    with self.assertRaises(InvalidBook) as caught:
                        Book(**told)
                    self.assertEqual((caught.exception.part, caught.exception.name), first[0], (first, second))

    def test_within_one_part(self):
        self.refused("works", None, works={"Job": JOB, "job": (LET,)})
        self.refused("works", "a", works={"a": (LET,), "job": (("start", "gone"),)},
                     cause=(InvalidItem, {"number": 0}))
        self.refused("hands", "x", hands=(LOOK, HOLD, ("start", "x")) + asks("a", "b", "c", "d"))
        self.refused("works", "x", works={"job": (("start", "x"),) + asks("a", "b", "c", "d")})
        self.refused("puller", "x", puller=(("bar", "x"), ("mark", "a"), ("mark", "b"), ("mark", "c")))


class Parts(unittest.TestCase):
    def book(self):
        return Book(STARTING, {"tick": TICK, "job": WorkRow(*JOB)}, puller=STEPS)

    def test_rows(self):
        book = self.book()
        self.assertIsInstance(book.hands, HandRow)
        self.assertIsInstance(book.puller, PullRow)
        self.assertEqual((book.hands, book.puller), (HandRow(*STARTING), PullRow(*STEPS)))
        self.assertIsInstance(book["tick"], WorkRow)
        self.assertEqual((book["job"], book["tick"]), (WorkRow(*JOB), WorkRow(*TICK)))

    def test_rows_that_are_passed(self):
        hands, job, puller = HandRow(*HANDS), WorkRow(*JOB), PullRow(*STEPS)
        book = Book(hands, {"job": job}, puller=puller)
        self.assertEqual((book.hands, book["job"], book.puller), (hands, job, puller))
        self.assertEqual(book, Book(HANDS, {"job": JOB}, puller=STEPS))

    def test_lists(self):
        book = self.book()
        self.assertEqual((book.works(), book.marks()), (["job", "tick"], ["dead", "gone", "late"]))
        book.works().append("more")
        book.marks().clear()
        self.assertEqual((book.works(), book.marks()), (["job", "tick"], ["dead", "gone", "late"]))

    def test_numbers_of_works(self):
        for works, many in ((None, 0), ({}, 0), ({"job": JOB}, 1), ({"tick": JOB, "job": JOB}, 2)):
            book = Book(HANDS, works, puller=())
            self.assertEqual((len(book), book.works()), (many, sorted(works or {})))

    def test_members(self):
        book = self.book()
        for name in ("job", "tick"):
            self.assertIs(name in book, True)
        for value in ODD + ("gone", "dead", "jo", "jobs", ("job",), ["job"], JOB, WorkRow(*JOB), book):
            self.assertIs(value in book, False)
            with self.assertRaises(UnknownName) as caught:
                book[value]
            self.assertIs(caught.exception.name, value)

    def test_changed_behind_the_call(self):
        works = {"job": JOB}
        book = Book(HANDS, works, puller=())
        works["tick"] = JOB
        works["job"] = TICK
        self.assertEqual((book.works(), book["job"]), (["job"], WorkRow(*JOB)))

    def test_calls(self):
        self.assertEqual(Book(hands=HANDS, puller=STEPS[:1]), Book(HANDS, None, puller=STEPS[:1]))
        with self.assertRaises(TypeError):
            Book(HANDS, None, ())
        with self.assertRaises(TypeError):
            Book(HANDS)

    def test_not_iterated_over(self):
        with self.assertRaises(TypeError):
            list(self.book())

    def test_read_only(self):
        for name in ("hands", "puller"):
            with self.assertRaises(AttributeError):
                setattr(self.book(), name, ())

    def test_equality(self):
        books = [lambda: Book(HANDS, puller=()), lambda: Book(HANDS + (), puller=(OUT,)),
                 lambda: Book((LOOK, HOLD, LET), puller=()), lambda: Book(HANDS, {"job": JOB}, puller=()),
                 lambda: Book(HANDS, {"tick": JOB}, puller=()), lambda: Book(HANDS, {"job": (USE,)}, puller=()),
                 lambda: Book(HANDS, {"job": JOB, "tick": JOB}, puller=())]
        for at, make in enumerate(books):
            for other, make_other in enumerate(books):
                self.assertIs(make() == make_other(), at == other)
                self.assertIs(make() != make_other(), at != other)
        self.assertEqual(Book(HANDS, {"a": JOB, "b": (USE,)}, puller=()), Book(HANDS, {"b": (USE,), "a": JOB}, puller=()))

    def test_equal_to_nothing_else(self):
        book = Book(HANDS, puller=())
        for value in (None, True, HANDS, book.hands, book.puller, {}, Same(), Refuses(), object()):
            self.assertIs(book == value, False)
            self.assertIs(book != value, True)


class Changed(Refused):
    def test_each_part_alone_and_together(self):
        old = {"hands": HANDS, "works": {"job": JOB}, "puller": (OUT,)}
        new = {"hands": STARTING, "works": {"job": (USE,), "tick": TICK}, "puller": STEPS}
        book = Book(**old)
        for parts in ((), ("works",), ("puller",), ("hands", "works"), ("works", "puller"), ("hands", "works", "puller")):
            changes = {part: new[part] for part in parts}
            self.assertEqual(book.changed(**changes), Book(**dict(old, **changes)))
            self.assertEqual(book.changed(**dict(dict.fromkeys(old), **changes)), Book(**dict(old, **changes)))
            self.assertEqual(book, Book(**old))
        other = Book(STARTING, new["works"], puller=())
        self.assertEqual(other.changed(hands=HANDS), Book(HANDS, new["works"], puller=()))

    def test_rows(self):
        book = Book(HANDS, {"job": JOB}, puller=(OUT,))
        changed = book.changed(hands=HandRow(LOOK, HOLD), works={"job": WorkRow(USE)}, puller=PullRow())
        self.assertEqual(changed, Book((LOOK, HOLD), {"job": (USE,)}, puller=()))

    def test_to_nothing(self):
        book = Book(HANDS, {"job": JOB}, puller=(OUT,))
        self.assertEqual(book.changed(works={}), Book(HANDS, puller=(OUT,)))
        self.assertEqual(book.changed(puller=()), Book(HANDS, {"job": JOB}, puller=()))

    def test_refused(self):
        book = Book(starts("job"), {"job": JOB}, puller=(("bar", "job"),))
        for changes, part, name in (({"hands": ()}, "hands", None), ({"hands": list(HANDS)}, "hands", None),
                                    ({"works": ()}, "works", None), ({"works": {"job": ()}}, "works", "job"),
                                    ({"puller": []}, "puller", None), ({"puller": (None,)}, "puller", None),
                                    ({"works": {}}, "hands", "job"), ({"works": {}, "hands": HANDS}, "puller", "job"),
                                    ({"hands": starts("tick")}, "hands", "tick"),
                                    ({"works": {"job": TICK}}, "works", "tick"),
                                    ({"puller": (("idle", "tick"),)}, "puller", "tick"),
                                    ({"hands": (LOOK, HOLD) + asks("a", "b", "c")}, "marks", None)):
            with self.assertRaises(InvalidBook) as caught:
                book.changed(**changes)
            self.assertEqual((caught.exception.part, caught.exception.name), (part, name))
        self.assertEqual(book, Book(starts("job"), {"job": JOB}, puller=(("bar", "job"),)))

    def test_causes(self):
        book = Book(HANDS, {"job": JOB}, puller=())
        for changes, cause in (({"hands": (LOOK,)}, InvalidItem), ({"works": {"job": (LET,)}}, InvalidItem),
                               ({"puller": (OUT, OUT)}, InvalidStep)):
            with self.assertRaises(InvalidBook) as caught:
                book.changed(**changes)
            self.assertIsInstance(caught.exception.__cause__, cause)

    def test_by_name_only(self):
        with self.assertRaises(TypeError):
            Book(HANDS, puller=()).changed(HANDS)


class Made(unittest.TestCase):
    def test_books_made_by_chance(self):
        for seed in range(60):
            hands, works, puller = Maker(seed).book(seed % 3)
            book = Book(hands, works, puller=puller)
            self.assertEqual((book.hands.parts, book.puller.parts), (hands, puller))
            self.assertEqual({name: book[name].parts for name in book.works()}, works)


if __name__ == "__main__":
    unittest.main()
