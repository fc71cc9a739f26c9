"""What the document promises over the whole program: points [2] and [3]."""

import inspect
import itertools
import unittest

import model
import samples
from odd import ODD, Refuses, Same
from samples import DOWN, HANDS, HOLD, LET, LOCK, LOOK, MARK, OUT, SOUND, TOUCH, TRY, USE, WAIT

from pulledout import (benches, books, closed, comparing, console, errors, faults, items, least, moves, names, orders,
                       plain, rings, rows, runs, shelves, tables, texts)

WORDS = ("touched", "used", "stuck", "kept")
BOOK = books.Book(HANDS, puller=SOUND)
WRONG = books.Book(HANDS, puller=(OUT, WAIT, MARK, DOWN, LET))
STATE = (1, (2,), (), 1, False)
RUN = runs.Run(("come",), ("go", 0))
PLAIN = plain.Plain.sound()
TEXT = texts.write_book(BOOK)

# As the interface writes it down: what stands behind * is passed by name only.
SIGNATURES = {
    names: {"is_name": "value", "is_integer": "value, lowest, highest"},
    errors: {"InvalidItem": "number", "InvalidStep": "index", "InvalidBook": "part, name", "InvalidState": "value",
             "InvalidMove": "move", "InvalidText": "line", "InvalidCommand": "word", "InvalidOption": "value",
             "NotRight": "word, run", "Faulty": "word, move", "InvalidNumber": "value", "UnknownName": "name",
             "LimitExceeded": "limit", "NothingToUndo": "name"},
    items: {"is_item": "value", "is_step": "value", "is_use": "value"},
    rows: {"HandRow": "*items", "WorkRow": "*items", "PullRow": "*steps", "HandRow.of": "items", "WorkRow.of": "items",
           "PullRow.of": "steps", "HandRow.item": "self, place", "HandRow.nexts": "self, place",
           "HandRow.holds": "self, place", "HandRow.is_under": "self, place", "HandRow.is_locked": "self, place",
           "HandRow.places_of": "self, word", "WorkRow.item": "self, place", "WorkRow.nexts": "self, place",
           "WorkRow.holds": "self, place", "WorkRow.is_under": "self, place", "WorkRow.is_locked": "self, place",
           "WorkRow.places_of": "self, word", "PullRow.first": "self, *step", "PullRow.has_lock": "self, done",
           "PullRow.is_behind": "self, done, *step"},
    books: {"Book": "hands, works=None, *, puller", "Book.works": "self", "Book.marks": "self",
            "Book.changed": "self, *, hands=None, works=None, puller=None"},
    moves: {"is_move": "value", "is_state": "book, value", "first_state": "book", "moves": "book, state, *, hands=8",
            "fault_of": "book, state, move", "after": "book, state, move", "is_freed": "book, state",
            "is_stuck": "book, state", "is_kept": "book, state", "count": "book, state"},
    runs: {"Run": "*moves", "Run.of": "moves", "Run.listed": "self", "play": "book, run", "is_run": "book, value",
           "fault_at_end": "book, value"},
    benches: {"Bench": "book, *, most=8", "Bench.__call__": "self, move", "Bench.allow": "self, most",
              "Bench.moves": "self", "Bench.faults": "self", "Bench.stuck": "self", "Bench.back": "self",
              "Bench.copy": "self", "Bench.attempt": "self, visitor", "Bench.trial": "self"},
    tables: {"Table": "book, *, hands=2, limit=6000", "Table.states": "self", "Table.run_to": "self, state",
             "Table.links": "self, state", "Table.faults": "self"},
    faults: {"faults": "book, *, limit=6000", "is_right": "book, *, limit=6000",
             "fewest": "book, word, *, limit=6000", "is_shown": "book, word, value",
             "require_right": "book, *, limit=6000", "meetings": "book, *, limit=6000", "way_out": "book, state"},
    closed: {"closed_list": "book, *, limit=6000", "is_closed": "book, value"},
    rings: {"is_tidy": "book", "askable": "book", "unsafe_places": "book", "Reach": "book, place", "Reach.path": "self",
            "Reach.events": "self", "Reach.pairs": "self", "Reach.choices": "self", "Reach.cases": "self",
            "Reach.pairs_of": "self, case", "Reach.order": "self, case", "Reach.ring": "self, case",
            "Reach.is_ring": "self, case, value", "Reach.answer": "self", "Reach.is_answer": "self, value"},
    plain: {"Plain": "opens, asks, *pulls", "Plain.of": "opens, asks, pulls", "Plain.sound": "",
            "Plain.pulled": "self, *pulls", "Plain.as_book": "self", "Plain.ahead": "self, word",
            "Plain.behind": "self, word", "Plain.gaps": "self", "Plain.openings": "self", "Plain.faults": "self"},
    orders: {"orders_of": "row", "right_orders": "book, *, limit=6000", "kept_pairs": "book, *, limit=6000",
             "alternatives": "book, *, limit=6000", "is_alternatives": "book, value, *, limit=6000",
             "right_words": "plain"},
    least: {"least_steps": "book, *, limit=6000", "needed_steps": "book, *, limit=6000", "Options": "book, *options",
            "Options.add": "self, option", "Options.is_choice": "self, value", "Options.changed": "self, chosen",
            "Options.least_changes": "self, *, limit=6000"},
    comparing: {"unlike": "book, other, *, limit=6000", "told_apart": "book, other, *, hands=1, limit=6000"},
    texts: {"write_item": "item", "write_row": "row", "write_book": "book", "read_items": "text", "read_steps": "text",
            "read_book": "text"},
    shelves: {"Shelf": "*, limit=6000", "Shelf.put": "self, name, book", "Shelf.drop": "self, name",
              "Shelf.names": "self", "Shelf.words": "self, name", "Shelf.bound": "self, value", "Shelf.undo": "self",
              "Shelf.changes": "self", "Shelf.trial": "self", "Shelf.accept": "self",
              "Shelf.attempt": "self, visitor"},
    console: {"Console": "", "Console.told": "self, command"},
}
PROPERTIES = {rows.HandRow: "parts size opening", rows.WorkRow: "parts size", rows.PullRow: "parts",
              books.Book: "hands puller", runs.Run: "hands", benches.Bench: "book state deeds freed kept most",
              rings.Reach: "goal lacks", plain.Plain: "opens asks pulls", least.Options: "book", shelves.Shelf: "limit",
              console.Console: "shelf"}
ASSIGNED = {(benches.Bench, "most"), (shelves.Shelf, "limit")}

# Each function with arguments that it takes; what is passed by name only stands behind.
CALLS = (
    (names.is_name, ("gone",), {}), (names.is_integer, (3, 0, 5), {}), (items.is_item, (LET,), {}),
    (items.is_step, (OUT,), {}), (items.is_use, (HOLD,), {}), (moves.is_move, (("go", 1),), {}),
    (moves.is_state, (BOOK, STATE), {}), (moves.first_state, (BOOK,), {}), (moves.moves, (BOOK, STATE), {"hands": 2}),
    (moves.fault_of, (WRONG, (1, (6,), (), 4, False), ("go", 6)), {}), (moves.after, (BOOK, STATE, ("go", 2)), {}),
    (moves.is_freed, (BOOK, STATE), {}), (moves.is_stuck, (BOOK, STATE), {}), (moves.is_kept, (BOOK, STATE), {}),
    (moves.count, (BOOK, STATE), {}), (runs.play, (BOOK, RUN), {}), (runs.is_run, (BOOK, RUN), {}),
    (runs.fault_at_end, (WRONG, faults.faults(WRONG)["touched"]), {}), (faults.faults, (WRONG,), {"limit": 700}),
    (faults.is_right, (BOOK,), {"limit": 700}), (faults.fewest, (WRONG, "touched"), {"limit": 700}),
    (faults.is_shown, (WRONG, "touched", faults.faults(WRONG)["touched"]), {}),
    (faults.require_right, (BOOK,), {"limit": 700}), (faults.meetings, (BOOK,), {"limit": 700}),
    (faults.way_out, (BOOK, STATE), {}), (closed.closed_list, (BOOK,), {"limit": 700}),
    (closed.is_closed, (BOOK, closed.closed_list(BOOK)), {}), (rings.is_tidy, (BOOK,), {}), (rings.askable, (BOOK,), {}),
    (rings.unsafe_places, (WRONG,), {}), (orders.right_orders, (BOOK,), {"limit": 700}),
    (orders.kept_pairs, (BOOK,), {"limit": 700}), (orders.alternatives, (BOOK,), {"limit": 700}),
    (orders.is_alternatives, (BOOK, orders.alternatives(BOOK)), {"limit": 700}), (orders.right_words, (PLAIN,), {}),
    (least.least_steps, (BOOK,), {"limit": 700}), (least.needed_steps, (BOOK,), {"limit": 700}),
    (comparing.unlike, (BOOK, WRONG), {"limit": 700}), (comparing.told_apart, (BOOK, WRONG), {"hands": 2, "limit": 9000}),
    (texts.write_item, (MARK,), {}), (texts.write_row, (BOOK.hands,), {}), (texts.write_book, (BOOK,), {}),
    (texts.read_items, ("look ; try",), {}), (texts.read_steps, ("out",), {}), (texts.read_book, (TEXT,), {}),
    (rows.HandRow.of, (list(HANDS),), {}), (rows.WorkRow.of, ([USE],), {}), (rows.PullRow.of, ([OUT],), {}),
    (runs.Run.of, ([("come",)],), {}), (plain.Plain.of, ("bare", "in", ["out"]), {}), (plain.Plain.sound, (), {}),
    (BOOK.works, (), {}), (BOOK.marks, (), {}), (BOOK.changed, (), {"hands": (LOOK, TRY, LET), "works": {}, "puller": (LET,)}),
    (BOOK.hands.item, (3,), {}), (BOOK.hands.nexts, (3,), {}), (BOOK.hands.holds, (3,), {}), (BOOK.hands.is_under, (3,), {}),
    (BOOK.hands.is_locked, (3,), {}), (BOOK.hands.places_of, ("let",), {}), (BOOK.puller.has_lock, (2,), {}),
    (RUN.listed, (), {}), (tables.Table(BOOK).run_to, (STATE,), {}), (tables.Table(BOOK).links, (STATE,), {}),
    (rings.Reach(BOOK, 6).pairs_of, ((1,),), {}), (rings.Reach(WRONG, 6).order, ((1,),), {}),
    (rings.Reach(BOOK, 6).ring, ((1,),), {}), (rings.Reach(BOOK, 6).is_ring, ((1,), rings.Reach(BOOK, 6).ring((1,))), {}),
    (rings.Reach(BOOK, 6).answer, (), {}), (rings.Reach(BOOK, 6).is_answer, (rings.Reach(BOOK, 6).answer(),), {}),
    (PLAIN.ahead, ("down",), {}), (PLAIN.behind, ("down",), {}), (PLAIN.gaps, (), {}), (PLAIN.openings, (), {}),
    (PLAIN.faults, (), {}), (PLAIN.as_book, (), {}),
    (least.Options(BOOK, ("puller", (LET,))).is_choice, ((0,),), {}),
    (least.Options(BOOK, ("puller", (LET,))).changed, ((0,),), {}),
    (least.Options(WRONG, ("puller", (LET,))).least_changes, (), {"limit": 700}),
    (console.Console().told, ("plain tried in out",), {}),
)


def found(module, path):
    told = module
    for name in path.split("."):
        told = getattr(told, name)
    return told


class Interface(unittest.TestCase):
    def test_signatures(self):
        for module, listed in SIGNATURES.items():
            for path, told in listed.items():
                signature = str(inspect.signature(found(module, path)))
                self.assertEqual(signature, "(" + told + ")", path)

    def test_all_is_listed(self):
        for module, listed in SIGNATURES.items():
            own = [name for name, value in vars(module).items() if not name.startswith("_")
                   and (inspect.isfunction(value) or inspect.isclass(value)) and value.__module__ == module.__name__]
            helpers = {benches: ["Past", "Held"], items: ["is_way_item", "is_ask_head"], errors: ["PullError"],
                       shelves: ["Change", "Kept", "Trial"]}
            self.assertEqual(sorted(own), sorted([path for path in listed if "." not in path] + helpers.get(module, [])))

    def test_properties(self):
        for kind, listed in PROPERTIES.items():
            for name in listed.split():
                self.assertIsInstance(vars(kind)[name], property)
                self.assertIs(vars(kind)[name].fset is not None, (kind, name) in ASSIGNED, name)

    def test_by_place_and_by_name(self):
        for function, passed, named in CALLS:
            told = list(inspect.signature(function).parameters)[:len(passed)]
            first = function(*passed, **named)
            self.assertEqual(function(**dict(zip(told, passed)), **named), first, function)
            if len(passed) > 1:
                self.assertEqual(function(*passed[:1], **dict(list(zip(told, passed))[1:]), **named), first, function)

    def test_by_name_only(self):
        for function, passed, named in CALLS:
            if named:
                with self.assertRaises(TypeError):
                    function(*passed, *named.values())
        for function in (lambda: tables.Table(BOOK, 2), lambda: benches.Bench(BOOK, 8), lambda: shelves.Shelf(500),
                         lambda: books.Book(HANDS, {}, SOUND)):
            with self.assertRaises(TypeError):
                function()

    def test_no_result(self):
        bench, shelf = benches.Bench(BOOK), shelves.Shelf()
        options = least.Options(BOOK)
        bench(("come",))
        for told in (bench.back(), bench.allow(3), shelf.put("a", BOOK), shelf.drop("a"), shelf.undo(), shelf.bound(5),
                     options.add(("puller", (LET,))), faults.require_right(BOOK)):
            self.assertIsNone(told)
        shelf.limit = 6000
        with shelf.trial():
            self.assertIsNone(shelf.accept())


class Equality(unittest.TestCase):
    def objects(self):
        return [rows.HandRow(LOOK, TRY, LET), rows.WorkRow(USE), rows.PullRow(LET), rows.PullRow(), BOOK, WRONG, runs.Run(),
                runs.Run(("step",)), benches.Bench(BOOK), tables.Table(BOOK), rings.Reach(BOOK, 6), PLAIN,
                plain.Plain("bare", "in"), least.Options(BOOK), shelves.Shelf(), console.Console()]

    def test_other_classes(self):
        told = self.objects()
        for first, other in itertools.permutations(told, 2):
            self.assertIs(first == other, False)
            self.assertIs(first != other, True)
        for first in told:
            for value in ODD + ((), (LET,), (LOOK, TRY, LET), [LET], "sound", TEXT):
                # Some classes leave it to the other side, which may then say anything.
                if not isinstance(value, (Same, Refuses)):
                    self.assertIs(first == value, False)

    def test_rows_with_the_same_parts(self):
        for parts in ((LOCK, ("unlock",)), (LOCK, ("unlock",), LOCK, ("unlock",))):
            work, pull = rows.WorkRow(*parts), rows.PullRow(*parts)
            self.assertEqual(work.parts, pull.parts)
            self.assertIs(work == pull, False)
            self.assertIs(pull == work, False)
            self.assertIs(work == parts, False)

    def test_equal_calls(self):
        for parts, _ in samples.NAMED.values():
            hands, works, puller = parts
            first = books.Book(hands, works, puller=puller)
            # Neither the order of the keys nor whether a row is a tuple or a row matters.
            turned = {name: rows.WorkRow(*works[name]) for name in list(works)[::-1]}
            second = books.Book(rows.HandRow(*hands), turned, puller=rows.PullRow(*puller))
            self.assertEqual(first, second)
            for told in (self.all_of(first), self.all_of(first)):
                self.assertEqual(told, self.all_of(second))

    def all_of(self, book):
        told = [faults.faults(book), faults.meetings(book), closed.closed_list(book), texts.write_book(book),
                rings.unsafe_places(book), least.least_steps(book), [faults.fewest(book, word) for word in WORDS],
                comparing.unlike(book, BOOK), comparing.told_apart(book, BOOK), comparing.told_apart(BOOK, book)]
        told += [rings.Reach(book, place).answer() for place in rings.askable(book)]
        if faults.is_right(book):
            told.append(least.needed_steps(book))
        if len(book.puller) <= 5 and len(set(book.puller)) == len(book.puller):
            told += [orders.right_orders(book), orders.kept_pairs(book), orders.alternatives(book)]
        return told


class Changed(unittest.TestCase):
    def check(self, function, change):
        """Changing what the function returned has no further effect."""
        told = function()
        change(told)
        self.assertNotEqual(function(), told)

    def test_what_is_told(self):
        table, bench, reach = tables.Table(WRONG), benches.Bench(WRONG), rings.Reach(BOOK, 6)
        right = books.Book(HANDS, puller=(MARK, WAIT, DOWN, LET))
        work = books.Book((LOOK, TRY, LET), {"job": (USE,)}, puller=(MARK, LET))
        options = least.Options(WRONG, ("puller", SOUND))
        shelf = shelves.Shelf()
        shelf["a"] = BOOK
        spoil = (lambda told: told.append("more"), lambda told: told.clear())
        for change in spoil:
            for function in (BOOK.marks, work.works, RUN.listed, table.states, lambda: table.links(table.states()[0]),
                             bench.moves, lambda: moves.moves(BOOK, STATE), lambda: closed.closed_list(BOOK),
                             reach.path, reach.events, reach.pairs, reach.choices, lambda: reach.pairs_of((0,)),
                             lambda: rings.Reach(WRONG, 6).order((1,)), lambda: reach.answer()[1],
                             lambda: rings.askable(BOOK), lambda: rings.unsafe_places(WRONG), PLAIN.gaps, PLAIN.openings,
                             PLAIN.pulled("out").faults, lambda: orders.right_orders(right), lambda: orders.kept_pairs(right),
                             lambda: orders.alternatives(right), lambda: orders.right_words(PLAIN),
                             lambda: least.least_steps(right), options.least_changes, shelf.names,
                             lambda: BOOK.hands.places_of("let")):
                self.check(function, change)
        for function in (table.faults, lambda: faults.faults(WRONG), lambda: faults.meetings(BOOK),
                         lambda: least.needed_steps(right)):
            self.check(function, lambda told: told.clear())
            self.check(function, lambda told: told.update({9: 9}))

    def test_what_was_passed(self):
        works = {"job": (USE,)}
        book = books.Book((LOOK, TRY, ("start", "job"), LET), works, puller=(LET,))
        others = {"job": (TOUCH,)}
        changed = book.changed(works=others)
        works["job"] = None
        works["tick"] = (USE,)
        others.clear()
        self.assertEqual((book.works(), book["job"].parts, changed["job"].parts), (["job"], (USE,), (TOUCH,)))
        for kind, parts in ((rows.HandRow, HANDS), (rows.WorkRow, (USE, TOUCH)), (rows.PullRow, SOUND)):
            passed = list(parts)
            row = kind.of(passed)
            passed.clear()
            self.assertEqual((row.parts, len(row)), (parts, len(parts)))
        passed = [("come",), ("go", 0)]
        run = runs.Run.of(passed)
        longer = run + passed
        passed.clear()
        self.assertEqual((run, len(longer)), (RUN, 4))
        pulls = ["out", "let"]
        made = plain.Plain.of("tried", "in", pulls)
        pulls.clear()
        self.assertEqual(made.pulls, ("out", "let"))


class Guarantees(unittest.TestCase):
    @classmethod
    def setUpClass(cls):
        cls.books = samples.samples(70, largest=100)

    def test_any_number_of_hands(self):
        """[3](a): one hand tells whether a book is right, two tell each word and its shortest run."""
        three = 0
        for parts, book in self.books:
            one, two = model.explore(parts, 1)[1], model.explore(parts, 2)
            self.assertIs(faults.is_right(book), not one)
            self.assertEqual({word: len(run) for word, run in faults.faults(book).items()}, two[1])
            if len(two[0]) < 700:
                three += 1
                self.assertEqual(model.explore(parts, 3)[1], two[1])
        self.assertGreater(three, 30)

    def test_closed_lists(self):
        """[3](d): a book is right if, and only if, there is a closed list."""
        for _, book in self.books:
            told = closed.closed_list(book)
            self.assertIs(told is not None, faults.is_right(book))
            self.assertIs(closed.is_closed(book, told), told is not None)

    def test_ways_out(self):
        """[3](e): in a right book each run can go on to where all is at its end and the record is freed."""
        seen = 0
        for _, book in self.books:
            if faults.is_right(book):
                for state in tables.Table(book, hands=2).states()[::5]:
                    way = faults.way_out(book, state)
                    for move in way:
                        state = moves.after(book, state, move)
                    self.assertEqual((moves.is_freed(book, state), state[1], state[3]), (True, (), len(book.puller)))
                    seen += 1
        self.assertGreater(seen, 100)

    def test_unsafe_places(self):
        """[3](b): some run has a fault at a place exactly if nothing lacks and some case has no ring."""
        seen = set()
        for parts, book in self.books:
            ended = {move[1] for state in model.explore(parts, 2)[0] for move in model.moves(parts, state, 2)
                     if move[0] == "go" and model.fault_of(parts, state, move)}
            for place in rings.askable(book):
                reach = rings.Reach(book, place)
                is_open = not reach.lacks and any(reach.ring(case) is None for case in reach.cases())
                self.assertIs(is_open, place in ended)
                seen.add((is_open, reach.lacks))
        self.assertEqual(seen, {(True, False), (False, True), (False, False)})

    def test_texts(self):
        """[3](g): texts are read back to equal things."""
        for _, book in self.books:
            self.assertEqual(texts.read_book(texts.write_book(book)), book)

    def test_shelves(self):
        """[3](g): a shelf's book is always right; what was refused leaves everything as it was."""
        shelf = shelves.Shelf(limit=20000)
        for _, book in self.books:
            before = ([shelf[name] for name in shelf.names()], shelf.changes())
            try:
                shelf["a"] = book
            except errors.NotRight as error:
                self.assertIs(faults.is_shown(book, error.word, error.run), True)
                self.assertIs(faults.is_right(book), False)
                self.assertEqual(([shelf[name] for name in shelf.names()], shelf.changes()), before)
            else:
                self.assertEqual((shelf.words("a"), shelf["a"], shelf.changes()), ([], book, before[1] + 1))

    def test_mended_books(self):
        """[3](f): what is told mends a book, and nothing less does."""
        for _, book in self.books:
            if len(book.puller) <= 6:
                for chosen in least.least_steps(book):
                    steps = tuple(book.puller[index] for index in chosen)
                    self.assertIs(faults.is_right(book.changed(puller=steps)), True)


if __name__ == "__main__":
    unittest.main()
