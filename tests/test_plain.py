import itertools
import unittest

import samples
from making import Maker
from odd import ODD
from samples import DOWN, ENTER, HOLD, LEAVE, LET, LOCK, LOOK, MARK, OUT, TOUCH, TRY, UNLOCK, WAIT

from pulledout.books import Book
from pulledout.errors import InvalidOption, InvalidStep, UnknownName
from pulledout.faults import faults
from pulledout.plain import Plain

OPENS = ("bare", "tried", "locked")
ASKS = ("in", "ahead", "none", "locked")
WORDS = ("out", "mark", "wait", "empty", "down", "let", "lock", "unlock")
FAULTS = ("touched", "used", "stuck", "kept")


def rows_of(many):
    """All pulls of so many words."""
    for pulls in itertools.permutations(WORDS, many):
        if "unlock" not in pulls or "lock" in pulls[:pulls.index("unlock")]:
            yield pulls


class Examples(unittest.TestCase):
    def test_of_the_interface(self):
        self.assertEqual(Plain.sound().faults(), [])
        self.assertEqual(Plain("locked", "locked", "lock", "down", "mark", "unlock", "let").faults(), ["used"])
        self.assertEqual(Plain("bare", "in", "wait", "mark", "down").faults(), ["touched", "kept"])
        self.assertEqual(Plain("tried", "none", "lock", "out", "unlock").gaps(), [(0, 0), (3, 3)])

    def test_by_name(self):
        plain = Plain.of(opens="tried", asks="in", pulls=["out", "let"])
        self.assertEqual(plain, Plain(opens="tried", asks="in").pulled("out", "let"))
        self.assertEqual((plain.ahead(word="let"), plain.behind(word="let")), (1, 2))


class Refused(unittest.TestCase):
    def test_opens_and_asks(self):
        for value in ODD + ("in", "Bare", "bare ", "try", ("bare",), ["bare"], b"bare", "lock"):
            for make in (lambda: Plain(value, "in"), lambda: Plain(value, None, "out", "out"),
                         lambda: Plain.of(value, value, ["none"])):
                with self.assertRaises(InvalidOption) as caught:
                    make()
                self.assertIs(caught.exception.value, value)
        for value in ODD + ("bare", "tried", "In", "in ", ("in",), ["in"], b"in", "behind"):
            for make in (lambda: Plain("bare", value), lambda: Plain("tried", value, "out", "out"),
                         lambda: Plain.of("locked", value, ["none"])):
                with self.assertRaises(InvalidOption) as caught:
                    make()
                self.assertIs(caught.exception.value, value)

    def check(self, pulls, index):
        for make in (lambda: Plain("bare", "in", *pulls), lambda: Plain.of("bare", "in", pulls),
                     lambda: Plain.of("bare", "in", list(pulls)), lambda: Plain.sound().pulled(*pulls)):
            with self.assertRaises(InvalidStep) as caught:
                make()
            self.assertIs(caught.exception.index, index, pulls)

    def test_pulls(self):
        for value in ODD + ("gone", "bar", "Out", "out ", ("out",), ["out"], b"out", ("mark", "gone")):
            for at in range(3):
                pulls = ["out", "let"]
                pulls.insert(at, value)
                self.check(tuple(pulls), at)

    def test_doubled(self):
        for word in WORDS[:-1]:
            self.check((word, word), 1)
            self.check(("out", word, "let", word) if word not in ("out", "let") else (word, "mark", "wait", word), 3)
        self.check(("lock", "unlock", "unlock"), 2)
        self.check(("lock", "unlock", "lock"), 2)
        self.check(("lock", "unlock", "lock", "unlock"), 2)

    def test_unlock_without_lock(self):
        self.check(("unlock",), 0)
        self.check(("out", "unlock", "lock"), 1)
        self.check(("unlock", "lock", "lock"), 0)

    def test_first_of_several(self):
        self.check(("out", "unlock", None, "out"), 1)
        self.check(("out", "out", "unlock"), 1)
        self.check(("out", None, "out"), 1)

    def test_words(self):
        for plain in (Plain.sound(), Plain("bare", "none")):
            for value in ODD + ("gone", "Out", "out ", ("out",), ["out"], b"out", "bare", "in", "touched"):
                for function in (plain.ahead, plain.behind):
                    with self.assertRaises(UnknownName) as caught:
                        function(value)
                    self.assertIs(caught.exception.name, value)


class Parts(unittest.TestCase):
    def test_all(self):
        for opens in OPENS:
            for asks in ASKS:
                for pulls in ((), ("let",), ("lock", "unlock"), WORDS, WORDS[:-1]):
                    plain = Plain(opens, asks, *pulls)
                    self.assertEqual((plain.opens, plain.asks, plain.pulls, len(plain)), (opens, asks, pulls, len(pulls)))
                    self.assertIsInstance(plain.pulls, tuple)
                    self.assertEqual(plain, Plain.of(opens, asks, list(pulls)))
                    self.assertEqual(plain, Plain.of(opens, asks, pulls))

    def test_sound(self):
        plain = Plain.sound()
        self.assertEqual((plain.opens, plain.asks, plain.pulls), ("tried", "in", ("out", "mark", "wait", "down", "let")))
        self.assertEqual(plain.as_book(), samples.made(samples.NAMED["sound"][0]))

    def test_members(self):
        plain = Plain("bare", "in", "out", "lock")
        for word in WORDS:
            self.assertIs(word in plain, word in ("out", "lock"))
        for value in ODD + (("out",), ["out"], "Out", b"out", "bare", "in", "o"):
            self.assertIs(value in plain, False)

    def test_equality(self):
        made = [Plain(opens, asks, *pulls) for opens in OPENS for asks in ASKS
                for pulls in ((), ("out",), ("out", "let"), ("let", "out"))]
        for at, first in enumerate(made):
            for other_at, other in enumerate(made):
                self.assertIs(first == other, at == other_at)
                self.assertIs(first != other, at != other_at)
            self.assertEqual(first, Plain(first.opens, first.asks, *first.pulls))
        for value in (("tried", "in", ("out", "mark", "wait", "down", "let")), None, 5, "sound", Plain.sound().as_book()):
            self.assertIs(Plain.sound() == value, False)

    def test_pulled(self):
        plain = Plain("locked", "none", "out")
        self.assertEqual(plain.pulled("let", "lock"), Plain("locked", "none", "let", "lock"))
        self.assertEqual(plain.pulled(), Plain("locked", "none"))
        self.assertEqual(plain, Plain("locked", "none", "out"))

    def test_a_list_that_is_changed(self):
        pulls = ["out", "let"]
        plain = Plain.of("tried", "in", pulls)
        pulls.append("mark")
        pulls[0] = None
        self.assertEqual((plain.pulls, plain.faults()), (("out", "let"), []))
        for function in (plain.gaps, plain.openings, plain.pulled("mark").faults):
            told = function()
            function().clear()
            self.assertEqual(function(), told)
            self.assertIsInstance(told, list)
            self.assertNotEqual(told, [])


class Books(unittest.TestCase):
    def test_rows(self):
        opens = {"bare": (LOOK, HOLD), "tried": (LOOK, TRY), "locked": (LOCK, LOOK, HOLD, UNLOCK)}
        asks = {"in": (ENTER, ("ask", "gone", (LEAVE, LET)), TOUCH, LEAVE, LET),
                "ahead": (("ask", "gone", (LET,)), ENTER, TOUCH, LEAVE, LET),
                "none": (ENTER, TOUCH, LEAVE, LET),
                "locked": (LOCK, ("ask", "gone", (UNLOCK, LET)), TOUCH, UNLOCK, LET)}
        for word in OPENS:
            for other in ASKS:
                book = Plain(word, other, "out", "mark", "let").as_book()
                self.assertEqual(book, Book(opens[word] + asks[other], puller=(OUT, MARK, LET)))
                self.assertEqual(book.works(), [])

    def test_steps(self):
        book = Plain("bare", "none", "lock", "out", "mark", "wait", "unlock", "empty", "down", "let").as_book()
        self.assertEqual(book.puller.parts, (LOCK, OUT, MARK, WAIT, UNLOCK, ("empty",), DOWN, LET))
        self.assertEqual(Plain("bare", "none").as_book().puller.parts, ())


class Numbers(unittest.TestCase):
    def test_ahead_and_behind(self):
        plain = Plain("bare", "in", "wait", "let", "lock")
        for word, ahead in (("wait", 0), ("let", 1), ("lock", 2), ("out", 3), ("unlock", 3), ("empty", 3)):
            self.assertEqual((plain.ahead(word), plain.behind(word)), (ahead, ahead + 1))
        self.assertEqual((Plain("bare", "in").ahead("out"), Plain("bare", "in").behind("out")), (0, 1))

    def test_gaps(self):
        for pulls, gaps in (((), [(0, 0)]), (("out", "let"), [(0, 2)]), (("lock",), [(0, 0)]),
                            (("out", "lock", "let"), [(0, 1)]), (("lock", "unlock"), [(0, 0), (2, 2)]),
                            (("out", "lock", "mark", "unlock", "let", "down"), [(0, 1), (4, 6)])):
            self.assertEqual(Plain("locked", "in", *pulls).gaps(), gaps)

    def test_gaps_against_the_row(self):
        for pulls in rows_of(4):
            plain = Plain("bare", "in", *pulls)
            row = plain.as_book().puller
            free = [number for first, last in plain.gaps() for number in range(first, last + 1)]
            self.assertEqual(free, [number for number in range(len(pulls) + 1) if not row.has_lock(number)])
            self.assertTrue(all(first > last + 1 for (_, last), (first, _) in zip(plain.gaps(), plain.gaps()[1:])))

    def test_openings(self):
        for opens, pulls, openings in (
                ("tried", (), [(0, 0)]), ("tried", ("out", "let"), [(0, 2)]),
                ("tried", ("out", "empty", "let"), [(0, 1), (2, 3)]), ("bare", ("empty", "let"), [(0, 0), (1, 2)]),
                ("tried", ("let", "empty"), [(0, 1)]), ("tried", ("empty",), [(0, 0), (1, 1)]),
                ("locked", ("empty", "out", "let"), [(0, 0), (1, 3)]),
                ("locked", ("out", "empty", "let"), [(0, 1), (2, 3)]),
                ("locked", ("lock", "out", "unlock", "empty", "let"), [(0, 3)]),
                ("locked", ("lock", "empty", "out", "unlock", "let"), [(0, 1)]),
                ("locked", ("lock", "empty", "unlock", "out", "let"), [(0, 1), (3, 5)]),
                ("locked", ("empty", "lock", "unlock", "out", "let"), [(0, 0), (1, 5)]),
                ("locked", ("lock", "empty", "let", "unlock", "out"), [(0, 1)]),
                ("locked", ("lock", "empty", "unlock", "let"), [(0, 1), (3, 4)]),
                ("locked", ("lock", "empty"), [(0, 1)]), ("locked", ("let", "empty"), [(0, 1)])):
            self.assertEqual(Plain(opens, "in", *pulls).openings(), openings, (opens, pulls))

    def test_openings_against_the_point(self):
        for opens in OPENS:
            for many in (2, 3, 4):
                for pulls in rows_of(many):
                    plain = Plain(opens, "none", *pulls)
                    places = {word: pulls.index(word) if word in pulls else many for word in WORDS}
                    told = [(0, places["empty"])]
                    behind = places["empty"] + 1
                    if "empty" in pulls and opens != "locked" and behind <= places["let"]:
                        told.append((behind, many))
                    if "empty" in pulls and opens == "locked":
                        for first, last in plain.gaps():
                            least = max(first, behind)
                            if len(told) == 1 and first <= places["out"] and least <= last and least <= places["let"]:
                                told.append((least, many))
                    self.assertEqual(plain.openings(), told, (opens, pulls))


class Faults(unittest.TestCase):
    def check(self, opens, asks, pulls):
        plain = Plain(opens, asks, *pulls)
        told = plain.faults()
        self.assertIsInstance(told, list)
        self.assertEqual(told, list(faults(plain.as_book())), (opens, asks, pulls))
        return told

    def test_pulls_of_few_words(self):
        seen = set()
        for many in range(4):
            for pulls in rows_of(many):
                for opens in OPENS:
                    for asks in ASKS:
                        seen.add(tuple(self.check(opens, asks, pulls)))
        self.assertGreater(len(seen), 8)

    def test_longer_pulls(self):
        seen = set()
        maker = Maker(3)
        for number in range(1500):
            pulls = list(WORDS[:maker.one_of([6, 8])])
            maker.chance.shuffle(pulls)
            pulls = pulls[:maker.one_of([4, 5, 6, 7, 8])]
            if "unlock" in pulls and "lock" not in pulls[:pulls.index("unlock")]:
                continue
            seen.update(self.check(maker.one_of(OPENS), maker.one_of(ASKS), pulls))
        self.assertEqual(seen, set(FAULTS))

    def test_named(self):
        for opens, asks, pulls, words in (
                ("tried", "in", "out mark wait down let", ""), ("tried", "in", "out wait mark down let", "touched"),
                ("tried", "ahead", "mark wait down let", "touched"), ("tried", "ahead", "mark wait empty down let", ""),
                ("tried", "ahead", "out mark empty down let", ""), ("tried", "none", "mark wait down let", "touched"),
                ("tried", "locked", "mark lock unlock down let", ""), ("tried", "locked", "mark down let", "touched"),
                ("tried", "locked", "lock mark down let", "stuck"), ("locked", "in", "lock out unlock mark wait down let", ""),
                ("locked", "in", "out mark wait down let", "used"), ("bare", "in", "out mark wait down let", "used"),
                ("bare", "in", "out mark wait down", "kept"), ("tried", "in", "mark let wait down", "used"),
                ("tried", "in", "mark down let wait", "touched used"), ("tried", "locked", "lock empty let", "stuck"),
                ("tried", "locked", "empty lock unlock let", ""), ("locked", "none", "lock let wait", "used stuck"),
                ("locked", "none", "empty lock let wait", "used stuck"), ("locked", "none", "out empty lock let wait", "used stuck"),
                ("tried", "in", "", "kept"), ("bare", "none", "down", "touched kept"), ("bare", "locked", "lock", "stuck kept")):
            words = words.split()
            self.assertEqual(self.check(opens, asks, pulls.split()), words, (opens, asks, pulls))

    def test_equal_calls(self):
        for pulls in (("lock", "down"), ("let", "down")):
            plain = Plain("locked", "locked", *pulls)
            self.assertEqual(plain.faults(), plain.faults())
            self.assertEqual(plain.openings(), Plain("locked", "locked", *pulls).openings())


if __name__ == "__main__":
    unittest.main()
