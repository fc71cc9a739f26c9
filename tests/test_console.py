import unittest

import picking
import samples
from odd import ODD
from samples import HANDS, LET, LOOK, SOUND, TRY

from pulledout.books import Book
from pulledout.comparing import unlike
from pulledout.console import Console
from pulledout.errors import (InvalidBook, InvalidCommand, InvalidOption, InvalidStep, InvalidText, LimitExceeded,
                              NothingToUndo, NotRight, UnknownName)
from pulledout.faults import faults, fewest
from pulledout.plain import Plain
from pulledout.shelves import Shelf
from pulledout.texts import write_book

SMALL = "hands look ; try ; let / puller let"
SAFE = "hands look ; try ; enter ; ask gone ( leave ; let ) ; touch ; leave ; let / puller out ; mark gone ; wait ; down ; let"
WRONG = "hands look ; try ; enter ; ask gone ( leave ; let ) ; touch ; leave ; let / puller out ; wait ; mark gone ; down ; let"
KEPT = "hands look ; hold ; let / puller"
WORKING = "hands look ; try ; start job ; let / work job touch / puller out ; bar job ; forget job ; idle job ; down ; let"


def text_of(book):
    return write_book(book).replace("\n", " / ")


def filled():
    console = Console()
    console.told("keep safe " + SAFE)
    console.told("keep job " + WORKING)
    return console


def told(console):
    shelf = console.shelf
    return {name: shelf[name] for name in shelf.names()}, shelf.changes(), shelf.limit


class Commands(unittest.TestCase):
    def test_keep_and_show(self):
        console = Console()
        self.assertEqual(console.told("names"), "-")
        for name, text in (("safe", SAFE), ("job", WORKING), ("a", SMALL)):
            self.assertEqual(console.told("keep " + name + " " + text), "ok")
            self.assertEqual(console.told("show " + name), text)
        self.assertEqual(console.told(command="names"), "a job safe")
        self.assertEqual(console.told("keep a " + SAFE), "ok")
        self.assertEqual((console.told("show a"), console.shelf.changes()), (SAFE, 4))

    def test_drop_and_undo(self):
        console = filled()
        self.assertEqual(console.told("drop safe"), "ok")
        self.assertEqual(console.told("names"), "job")
        self.assertEqual(console.told("undo"), "ok")
        self.assertEqual(console.told("names"), "job safe")
        for _ in range(2):
            self.assertEqual(console.told("undo"), "ok")
        self.assertEqual(console.told("names"), "-")
        with self.assertRaises(NothingToUndo) as caught:
            console.told("undo")
        self.assertEqual(caught.exception.name, "undo")

    def test_the_shelf(self):
        console = Console()
        self.assertIsInstance(console.shelf, Shelf)
        self.assertEqual((len(console.shelf), console.shelf.changes(), console.shelf.limit), (0, 0, 6000))
        console.told("keep safe " + SAFE)
        self.assertEqual(console.shelf["safe"], Book(HANDS, puller=SOUND))
        console.shelf["a"] = Book((LOOK, TRY, LET), puller=(LET,))
        self.assertEqual((console.told("show a"), console.told("names")), (SMALL, "a safe"))
        self.assertIs(console.shelf, console.shelf)
        self.assertEqual(Console().told("names"), "-")

    def test_ask(self):
        console = Console()
        for text, answer in ((SMALL, "right"), (SAFE, "right"), (WORKING, "right"), (WRONG, "touched"), (KEPT, "kept")):
            self.assertEqual(console.told("ask " + text), answer)
        for parts, words in samples.NAMED.values():
            self.assertEqual(console.told("ask " + text_of(samples.made(parts))), " ".join(words) or "right")
        self.assertEqual(console.told("names"), "-")

    def test_fewest(self):
        console = Console()
        for parts, _ in samples.NAMED.values():
            book = samples.made(parts)
            for word in ("touched", "used", "stuck", "kept"):
                found = fewest(book, word)
                answer = "-" if found is None else " ".join([str(found[0]), str(len(found[1]))])
                self.assertEqual(console.told("fewest " + word + " " + text_of(book)), answer)
        self.assertEqual(console.told("fewest kept " + KEPT), "0 0")
        self.assertEqual(console.told("fewest touched " + WRONG), "1 10")
        self.assertEqual(console.told("fewest touched " + KEPT), "-")

    def test_unlike(self):
        console = filled()
        self.assertEqual(console.told("unlike safe job"), "-")
        self.assertEqual(console.told("unlike safe safe"), "-")
        with console.shelf.trial():
            console.told("keep wrong " + WRONG)
            console.told("keep kept " + KEPT)
            for first, other, answer in (("wrong", "safe", "touched"), ("safe", "wrong", "touched"), ("kept", "safe", "used"),
                                         ("kept", "wrong", "touched"), ("job", "safe", "-")):
                found = unlike(console.shelf[first], console.shelf[other])
                answer = found[0] if found else "-"
                self.assertEqual(console.told("unlike " + first + " " + other), answer)
            self.assertEqual(console.told("unlike wrong safe"), "touched")
            self.assertEqual(console.told("unlike safe kept"), "kept")

    def test_plain(self):
        console = Console()
        for opens in ("bare", "tried", "locked"):
            for asks in ("in", "ahead", "none", "locked"):
                for pulls in ("", " let", " out mark wait down let", " lock out unlock mark let down", " down lock"):
                    words = Plain.of(opens, asks, pulls.split()).faults()
                    self.assertEqual(console.told("plain " + opens + " " + asks + pulls), " ".join(words) or "right")
        self.assertEqual(console.told("plain bare in wait mark down"), "touched kept")
        self.assertEqual(console.told("plain tried in"), "kept")

    def test_there_and_back(self):
        console = Console()
        for parts, words in samples.NAMED.values():
            text = text_of(samples.made(parts))
            with console.shelf.trial():
                self.assertEqual(console.told("keep a " + text), "ok")
                self.assertEqual(console.told("show a"), text)
                self.assertEqual(console.shelf["a"], samples.made(parts))


class Refused(unittest.TestCase):
    def check(self, command, kind, **parts):
        console = filled()
        before = told(console)
        with self.assertRaises(kind, msg=command) as caught:
            console.told(command)
        self.assertIs(type(caught.exception), kind)
        for name, value in parts.items():
            self.assertEqual(getattr(caught.exception, name), value, command)
        self.assertEqual(told(console), before)
        return caught.exception

    def test_no_texts(self):
        for value in tuple(value for value in ODD if not isinstance(value, str)) + (["names"], ("names",), b"names"):
            self.assertIsNone(self.check(value, InvalidCommand).word)

    def test_words_that_are_empty(self):
        for command in ("", " ", " names", "names ", "show  safe", "show safe ", " jump", "jump ", "jump  up", "ask  " + SAFE,
                        "names\n", "na\nmes", "names\t", "\tnames", "show\tsafe", "ask " + SAFE.replace(" / ", "\n"),
                        "jump\n", "keep a " + SAFE + "\n", "keep a " + SAFE + " ", "keep a " + SAFE.replace(" / ", "  / ")):
            self.assertIsNone(self.check(command, InvalidCommand).word)

    def test_words_that_are_none(self):
        for word in ("jump", "Names", "name", "/", "-", "ok", "names;", "put", "told", "keeps", "0"):
            for rest in ("", " safe", " safe " + SAFE):
                self.check(word + rest, InvalidCommand, word=word)

    def test_numbers_of_words(self):
        for command in ("keep", "keep a", "drop", "drop safe job", "undo undo", "undo 1", "names names", "names safe", "show",
                        "show safe job", "ask", "fewest", "fewest touched", "unlike", "unlike safe", "unlike safe job job",
                        "plain", "plain tried"):
            self.check(command, InvalidCommand, word=command.split()[0])
        # As many as one likes, but what they tell is none.
        self.check("keep a b", InvalidText, line=0)
        self.check("ask a", InvalidText, line=0)
        self.check("fewest a b", InvalidText, line=0)
        self.check("plain a b", InvalidOption, value="a")

    def test_texts(self):
        for ahead in ("keep a ", "ask ", "fewest touched ", "keep A ", "fewest touch "):
            for text, line in (("look ; try", 0), ("hands", 0), ("hands look ; try", 1), ("puller", 0),
                               ("hands look ; hold / puller / puller", 2), ("hands look ; hold / puller ;", 1),
                               ("hands look ; hold / work b use / work a use / puller", 2), ("hands look ; hold / jump", 1),
                               ("/ hands look ; hold / puller", 0), ("hands look ; hold / puller /", 1),
                               ("hands look ; hold / / puller", 1), ("hands look ; hold/ puller", 0),
                               ("hands look ; hold / puller jump", 1), ("safe", 0), ("hands let / jump", 1)):
                self.check(ahead + text, InvalidText, line=line)
            for text, part, name in (("hands let / puller", "hands", None), ("hands look ; hold / puller unlock", "puller", None),
                                     ("hands look ; hold ; start job / puller", "hands", "job"),
                                     ("hands look ; hold / work job let / puller", "works", "job")):
                self.check(ahead + text, InvalidBook, part=part, name=name)

    def test_names(self):
        for name in ("A", "zoo1", "ninechars", "/", ";"):
            self.check("keep " + name + " " + SAFE, UnknownName, name=name)
            for command in ("drop " + name, "show " + name, "unlike " + name + " safe", "unlike safe " + name,
                            "unlike " + name + " zoo"):
                self.check(command, UnknownName, name=name)
        for command in ("drop zoo", "show zoo", "unlike zoo safe", "unlike safe zoo", "unlike zoo tick"):
            self.check(command, UnknownName, name="zoo")

    def test_words_of_faults(self):
        for word in ("touch", "Touched", "right", "-", "/"):
            self.check("fewest " + word + " " + SAFE, UnknownName, name=word)

    def test_books_that_are_not_right(self):
        self.check("keep a " + WRONG, NotRight, word="touched")
        self.check("keep safe " + KEPT, NotRight)
        self.check("keep A " + WRONG, UnknownName, name="A")

    def test_a_ninth_name(self):
        console = Console()
        for name in "abcdefgh":
            console.told("keep " + name + " " + SMALL)
        with self.assertRaises(LimitExceeded) as caught:
            console.told("keep i " + SMALL)
        self.assertEqual((caught.exception.limit, console.told("names")), (8, "a b c d e f g h"))
        self.assertEqual(console.told("keep h " + SAFE), "ok")

    def test_plain(self):
        self.check("plain try in", InvalidOption, value="try")
        self.check("plain in tried", InvalidOption, value="in")
        self.check("plain tried inside out out", InvalidOption, value="inside")
        self.check("plain tried in out out", InvalidStep, index=1)
        self.check("plain tried in out mark gone", InvalidStep, index=2)
        self.check("plain tried in unlock lock", InvalidStep, index=0)
        self.check("plain tried in let /", InvalidStep, index=1)

    def test_the_limit_of_the_shelf(self):
        book = Book(HANDS, puller=SOUND)
        one, two = picking.many_states(book, 1), picking.many_states(book, 2)
        console = filled()
        console.shelf.limit = two
        self.assertEqual(console.told("ask " + SAFE), "right")
        self.assertEqual(console.told("fewest touched " + SAFE), "-")
        self.assertEqual(console.told("unlike safe safe"), "-")
        console.shelf.limit = two - 1
        for command in ("ask " + SAFE, "fewest touched " + SAFE, "unlike safe safe"):
            with self.assertRaises(LimitExceeded) as caught:
                console.told(command)
            self.assertEqual(caught.exception.limit, two - 1)
        console.shelf.limit = one
        self.assertEqual(console.told("keep a " + SAFE), "ok")
        console.shelf.limit = one - 1
        with self.assertRaises(LimitExceeded) as caught:
            console.told("keep b " + SAFE)
        self.assertEqual((caught.exception.limit, console.told("names")), (one - 1, "a job safe"))
        # Plain books need no states.
        console.shelf.limit = 1
        self.assertEqual(console.told("plain tried in out mark wait down let"), "right")

    def test_the_first_name_is_looked_at_first(self):
        large = Book(HANDS, puller=SOUND)
        console = filled()
        console.shelf.limit = 1
        with self.assertRaises(UnknownName):
            console.told("unlike safe zoo")
        self.check("unlike zoo tick", UnknownName, name="zoo")
        self.check("unlike tick zoo", UnknownName, name="tick")
        self.assertEqual(faults(large), {})


if __name__ == "__main__":
    unittest.main()
