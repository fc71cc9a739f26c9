import unittest

import samples
from making import Maker
from odd import ODD
from samples import (DOWN, EMPTY, ENTER, HANDS, HOLD, LEAVE, LET, LOCK, LOOK, MARK, OUT, SOUND, TOUCH, TRY, UNLOCK,
                     USE, WAIT)

from pulledout.books import Book
from pulledout.errors import InvalidBook, InvalidItem, InvalidStep, InvalidText
from pulledout.rows import HandRow, PullRow, WorkRow
from pulledout.texts import read_book, read_items, read_steps, write_book, write_item, write_row

ITEMS = {"look": LOOK, "hold": HOLD, "try": TRY, "let": LET, "enter": ENTER, "leave": LEAVE, "touch": TOUCH, "use": USE,
         "lock": LOCK, "unlock": UNLOCK, "start job": ("start", "job"), "start start": ("start", "start"),
         "ask gone ( )": ("ask", "gone", ()), "ask ask ( let )": ("ask", "ask", (LET,)),
         "ask gone ( leave ; let )": ("ask", "gone", (LEAVE, LET)),
         "ask gone ( use ; start job ; touch ; let )": ("ask", "gone", (USE, ("start", "job"), TOUCH, LET))}
STEPS = {"out": OUT, "mark gone": MARK, "wait": WAIT, "empty": EMPTY, "down": DOWN, "let": LET, "lock": LOCK,
         "unlock": UNLOCK, "bar job": ("bar", "job"), "forget job": ("forget", "job"), "idle idle": ("idle", "idle")}
NO_TEXTS = tuple(value for value in ODD if not isinstance(value, str)) + (LOOK, (LOOK,), ["look"], b"look")

SAFE = Book(HANDS, puller=SOUND)
SAFE_TEXT = """hands look ; try ; enter ; ask gone ( leave ; let ) ; touch ; leave ; let
puller out ; mark gone ; wait ; down ; let"""
WORKING = Book((LOOK, TRY, ("start", "job"), LET), {"tick": (LOCK, USE, UNLOCK), "job": (("ask", "gone", ()), TOUCH)},
               puller=(("bar", "job"), MARK, LET))
WORKING_TEXT = """hands look ; try ; start job ; let
work job ask gone ( ) ; touch
work tick lock ; use ; unlock
puller bar job ; mark gone ; let"""


class Writing(unittest.TestCase):
    def test_items_and_steps(self):
        for text, item in list(ITEMS.items()) + list(STEPS.items()):
            self.assertEqual(write_item(item), text)
            self.assertEqual(write_item(item=item), text)

    def test_rows(self):
        self.assertEqual(write_row(HandRow(*HANDS)), "look ; try ; enter ; ask gone ( leave ; let ) ; touch ; leave ; let")
        self.assertEqual(write_row(WorkRow(USE)), "use")
        self.assertEqual(write_row(row=WorkRow(("ask", "gone", ()), ("start", "job"))), "ask gone ( ) ; start job")
        self.assertEqual(write_row(PullRow(*SOUND)), "out ; mark gone ; wait ; down ; let")
        self.assertEqual(write_row(PullRow()), "")

    def test_books(self):
        self.assertEqual(write_book(SAFE), SAFE_TEXT)
        self.assertEqual(write_book(book=WORKING), WORKING_TEXT)
        self.assertEqual(write_book(Book((LOOK, HOLD, LET), puller=())), "hands look ; hold ; let\npuller")
        self.assertEqual(write_book(Book((LOOK, HOLD), puller=(LET,))), "hands look ; hold\npuller let")


class Reading(unittest.TestCase):
    def test_items(self):
        for text, item in ITEMS.items():
            self.assertEqual(read_items(text), (item,))
        self.assertEqual(read_items(text=" ; ".join(ITEMS)), tuple(ITEMS.values()))
        # Also what is no row.
        self.assertEqual(read_items("let ; let ; look"), (LET, LET, LOOK))
        self.assertEqual(read_items(" ; ".join(["use"] * 20)), (USE,) * 20)

    def test_steps(self):
        for text, step in STEPS.items():
            self.assertEqual(read_steps(text), (step,))
        self.assertEqual(read_steps(text=" ; ".join(STEPS)), tuple(STEPS.values()))
        self.assertEqual(read_steps("unlock ; out ; out"), (UNLOCK, OUT, OUT))
        self.assertEqual(read_steps(" ; ".join(["wait"] * 12)), (WAIT,) * 12)

    def test_the_empty_text(self):
        self.assertEqual(read_steps(""), ())
        for function in (read_items, read_book):
            with self.assertRaises(InvalidText) as caught:
                function("")
            self.assertEqual(caught.exception.line, 0)

    def test_items_within_an_ask_are_tuples(self):
        item, = read_items("ask gone ( leave ; let )")
        self.assertIsInstance(item[2], tuple)
        self.assertEqual([type(part) for part in item[2]], [tuple, tuple])

    def test_books(self):
        for text, book in ((SAFE_TEXT, SAFE), (WORKING_TEXT, WORKING), ("hands look ; hold\npuller", Book((LOOK, HOLD), puller=()))):
            self.assertEqual(read_book(text), book)
            self.assertEqual(read_book(text=text), book)
            self.assertEqual(write_book(read_book(text)), text)

    def test_there_and_back(self):
        books = [samples.made(parts) for parts, _ in samples.NAMED.values()]
        books += [samples.made(Maker(seed).book(seed % 3)) for seed in range(300)]
        for book in books:
            text = write_book(book)
            self.assertEqual(read_book(text), book)
            self.assertEqual(write_book(read_book(text)), text)
            self.assertEqual(HandRow.of(read_items(write_row(book.hands))), book.hands)
            self.assertEqual(PullRow.of(read_steps(write_row(book.puller))), book.puller)
            for item in book.hands:
                self.assertEqual(read_items(write_item(item)), (item,))
            for name in book.works():
                self.assertEqual(read_items(write_row(book[name])), book[name].parts)


class Refused(unittest.TestCase):
    def check(self, function, text, line):
        with self.assertRaises(InvalidText) as caught:
            function(text)
        self.assertIs(caught.exception.line, line, text)

    def test_no_texts(self):
        for value in NO_TEXTS:
            for function in (read_items, read_steps, read_book):
                self.check(function, value, None)

    def test_spoilt_parts(self):
        for good in ("look", "let", "start job", "ask gone ( let )", "use ; touch ; let"):
            for text in (" " + good, good + " ", good + "\n", "\n" + good, good + ";", good + " ;", "; " + good, good + " ; ",
                         good + " ; ; let", good + "  ; let", good + " ;  let", good + ";let", good.upper(), good + " job",
                         good + " )", "( " + good, "( " + good + " )", good + "\t; let", good + " ; let let", good + "\nlet",
                         good + " ; mark gone", good + " ; jump", good.replace("o", "0") + " 0"):
                self.check(read_items, text, 0)

    def test_spoilt_steps(self):
        for good in ("out", "let", "mark gone", "bar job", "wait ; wait"):
            for text in (" ", ";", " ; ", " " + good, good + " ", good + "\n", good + ";", good + " ;", "; " + good, good + " ; ",
                         good + " ; ; let", good + "  ; let", good + " ;  let", good.upper(), good + " job", "( " + good + " )",
                         good + " ; look", good + " ; use", good + " ; ask gone ( )", good + " ; start job"):
                self.check(read_steps, text, 0)

    def test_spoilt_asks(self):
        for text in ("ask gone", "ask gone (", "ask gone )", "ask gone let", "ask gone ()", "ask gone (let)", "ask gone ( let",
                     "ask gone let )", "ask ( let )", "ask gone ( let ) )", "ask gone ( ( let )", "ask gone ( ( let ) )",
                     "ask gone (  )", "ask gone ( ; )", "ask gone ( let ; )", "ask gone ( ; let )", "ask gone ( let let )",
                     "ask gone ( let ) let", "ask gone dead ( let )", "ask Gone ( let )", "ask gonegonegone ( let )",
                     "ask gone ( look )", "ask gone ( try )", "ask gone ( ask dead ( ) )", "ask gone ( hold ; let )",
                     "ask gone ( use ; use ; use ; use ; let )", "ask gone ( let ) ( let )", "ask gone ( mark dead )",
                     "ask gone ) let (", "ask", "ask ( )", "ask  ( )", "ask gone ( let ; let", "ask gone ; ( let )"):
            for other in ("", " ; let", " ; ask gone ( )"):
                self.check(read_items, text + other, 0)
            self.check(read_book, "hands look ; try ; " + text + "\npuller", 0)

    def test_names(self):
        for name in ("Job", "j0b", "job!", "jobjobjob", "", "jo b", "(", ")", ";", "/"):
            for word, function in (("start", read_items), ("mark", read_steps), ("bar", read_steps)):
                self.check(function, word + " " + name, 0)

    def test_rows_of_a_book(self):
        rows = WORKING_TEXT.split("\n")
        for at, row in enumerate(rows):
            for spoilt in (" " + row, row + " ", row.replace(" ", "  ", 1), row.upper(), row + " ;", row + " ; jump", "",
                           row.partition(" ")[2], "x" + row, row.replace(" ", "\t", 1), "( " + row + " )", row.partition(" ")[0] + " "):
                self.check(read_book, "\n".join(rows[:at] + [spoilt] + rows[at + 1:]), at)
        self.check(read_book, "\n".join(rows[1:]), 0)
        self.check(read_book, "\n".join([rows[0]] + rows), 1)

    def test_a_row_put_in(self):
        rows = WORKING_TEXT.split("\n")
        for at in range(len(rows) + 1):
            for row in ("", "jump", "let", "works job use", rows[0]):
                if at == 0 and row == rows[0]:
                    continue
                self.check(read_book, "\n".join(rows[:at] + [row] + rows[at:]), at)

    def test_a_row_taken_away(self):
        rows = WORKING_TEXT.split("\n")
        self.check(read_book, "\n".join(rows[1:]), 0)
        self.check(read_book, "\n".join(rows[:-1]), 3)
        self.check(read_book, rows[0], 1)
        self.check(read_book, "\n".join(rows[:2]), 2)
        self.assertEqual(read_book("\n".join(rows[:2] + rows[3:])).works(), ["job"])
        with self.assertRaises(InvalidBook) as caught:
            read_book("\n".join(rows[:1] + rows[2:]))
        self.assertEqual((caught.exception.part, caught.exception.name), ("hands", "job"))

    def test_rows_doubled_and_exchanged(self):
        rows = WORKING_TEXT.split("\n")
        for at, line in ((0, 1), (1, 2), (2, 3), (3, 4)):
            self.check(read_book, "\n".join(rows[:at + 1] + rows[at:]), line)
        for order, line in (((1, 0, 2, 3), 0), ((0, 2, 1, 3), 2), ((0, 1, 3, 2), 3), ((3, 1, 2, 0), 0), ((0, 3, 1, 2), 2)):
            self.check(read_book, "\n".join(rows[at] for at in order), line)

    def test_behind_the_puller(self):
        for behind in ("\n", "\n\n", "\npuller", "\nwork zoo use", "\nhands look ; hold", "\n "):
            self.check(read_book, SAFE_TEXT + behind, 2)
            self.check(read_book, WORKING_TEXT + behind, 4)
            self.check(read_book, "hands look ; hold\npuller" + behind, 2)

    def test_pullers(self):
        hands = "hands look ; hold\n"
        for row in ("puller ", "puller  ", "pullers", "puller;", "puller ;", "puller out ;", "puller look", " puller", "Puller",
                    "puller  out", "puller\t", "work", "work job", "work job ", "hands look ; hold"):
            self.check(read_book, hands + row, 1)
        self.assertEqual(len(read_book(hands + "puller").puller), 0)

    def test_hands_and_works_without_items(self):
        for row in ("hands", "hands ", "hands  look ; hold", "hand look ; hold", "hands;look"):
            self.check(read_book, row + "\npuller", 0)
        for row in ("work job", "work job ", "work", "work  use", "work use", "work Job use", "work job use ;",
                    "work jobjobjob use", "work job  use", "work job job use", "work job mark gone"):
            self.check(read_book, "hands look ; hold\n" + row + "\npuller", 1)

    def test_works_not_ascending(self):
        for names, line in ((("tick", "job"), 2), (("job", "job"), 2), (("a", "b", "b"), 3), (("b", "a", "c"), 2), (("ab", "a"), 2)):
            rows = ["hands look ; hold"] + ["work " + name + " use" for name in names] + ["puller"]
            self.check(read_book, "\n".join(rows), line)

    def test_no_books(self):
        for text, part, name, cause in (
                ("hands look ; let\npuller", "hands", None, InvalidItem),
                ("hands let\npuller", "hands", None, InvalidItem),
                ("hands look ; hold\nwork job let\npuller", "works", "job", InvalidItem),
                ("hands look ; hold\nwork a use\nwork b use\nwork c use\npuller", "works", None, None),
                ("hands look ; hold\npuller unlock", "puller", None, InvalidStep),
                ("hands look ; hold\npuller let ; let", "puller", None, InvalidStep),
                ("hands look ; hold ; start job\npuller", "hands", "job", None),
                ("hands look ; hold\nwork job start tick\npuller", "works", "tick", None),
                ("hands look ; hold\npuller idle job", "puller", "job", None),
                ("hands look ; hold\npuller mark a ; mark b ; mark c ; mark d", "marks", None, None)):
            with self.assertRaises(InvalidBook) as caught:
                read_book(text)
            self.assertEqual((caught.exception.part, caught.exception.name), (part, name))
            self.assertIs(type(caught.exception.__cause__), cause or type(None))

    def test_a_bad_row_ahead_of_what_is_no_book(self):
        self.check(read_book, "hands let\npuller jump", 1)
        self.check(read_book, "hands look ; hold\nwork job let\npuller\n", 3)

    def test_what_is_read_is_what_is_written(self):
        """No other text than the one that is written is read as the same."""
        maker = Maker(9)
        signs = " ;()\nabeghklnoprtuy"
        texts = [SAFE_TEXT, WORKING_TEXT, "hands look ; hold ; ask gone ( )\npuller"]
        read = 0
        for _ in range(4000):
            text = maker.one_of(texts)
            at = maker.chance.randrange(len(text) + 1)
            sign = maker.one_of(signs)
            bent = maker.one_of([text[:at] + text[at + 1:], text[:at] + sign + text[at:], text[:at] + sign + text[at + 1:]])
            try:
                book = read_book(bent)
            except (InvalidText, InvalidBook):
                continue
            read += 1
            self.assertEqual(write_book(book), bent)
        self.assertGreater(read, 20)


if __name__ == "__main__":
    unittest.main()
