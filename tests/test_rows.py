import random
import unittest

import model
from making import Maker
from odd import ODD, Refuses, Same, not_within

from pulledout.errors import InvalidItem, InvalidNumber, InvalidStep
from pulledout.rows import HandRow, PullRow, WorkRow

LOOK, HOLD, TRY, LET = ("look",), ("hold",), ("try",), ("let",)
ENTER, LEAVE, TOUCH, USE = ("enter",), ("leave",), ("touch",), ("use",)
LOCK, UNLOCK, START = ("lock",), ("unlock",), ("start", "job")

OPENINGS = ((LOOK, HOLD), (LOOK, TRY), (LOCK, LOOK, HOLD, UNLOCK), (LOCK, LOOK, TRY, UNLOCK),
            (LOCK, LOOK, UNLOCK, HOLD), (LOCK, LOOK, UNLOCK, TRY))
EXAMPLE = (LOOK, TRY, ENTER, ("ask", "gone", (LEAVE, LET)), TOUCH, LEAVE, LET)
NO_ITEMS = ODD + ("look", ["look"], ("walk",), ("out",), ("look", "gone"), ("start",), ("ask", "gone"), ("start", "Job"))


def ask(*way_out, mark="gone"):
    return ("ask", mark, way_out)


def standings(row):
    return [(row.holds(place), row.is_under(place), row.is_locked(place)) for place in range(row.size)]


def expected_refusal(row, is_hand):
    """(InvalidItem's number,) with which the row of items, each of them one, is refused, or None."""
    end = model.end_of(row)
    if not 1 <= end <= 14:
        return (None,)
    opening = 0
    if is_hand:
        opening, wrong = model.opening_of(row)
        if opening is None:
            return (wrong,)
    wrong = model.misplaced(row, opening)
    return None if wrong is None else (wrong,)


class Refusing(unittest.TestCase):
    def refused(self, kind, items, number):
        for make in (lambda: kind(*items), lambda: kind.of(tuple(items)), lambda: kind.of(list(items))):
            with self.assertRaises(InvalidItem, msg=items) as caught:
                make()
            self.assertEqual(caught.exception.number, number, items)
            self.assertNotIsInstance(caught.exception.number, bool)

    def both_refused(self, behind, number):
        """Refused behind each opening, by the number counted from its end, and as a work."""
        for opening in OPENINGS:
            self.refused(HandRow, opening + tuple(behind), len(opening) + number)
        self.refused(WorkRow, behind, number)


class Places(unittest.TestCase):
    def test_example(self):
        row = HandRow(*EXAMPLE)
        told = (row.size, row.nexts(3), row.item(5), row.is_under(6), row.holds(0), row.opening)
        self.assertEqual(told, (9, (6, 4), ("let",), True, False, 2))
        self.assertEqual([row.nexts(place) for place in range(9)],
                         [(1,), (2,), (3,), (6, 4), (5,), (9,), (7,), (8,), (9,)])
        self.assertEqual([row.item(place) for place in range(9)],
                         [LOOK, TRY, ENTER, EXAMPLE[3], LEAVE, LET, TOUCH, LEAVE, LET])
        self.assertEqual([row.holds(place) for place in range(9)], [False, False] + [True] * 7)
        self.assertEqual([row.is_under(place) for place in range(9)],
                         [False, False, False, True, True, False, True, True, False])
        self.assertEqual([row.is_locked(place) for place in range(9)], [False] * 9)

    def test_openings_alone(self):
        for opening in OPENINGS:
            row = HandRow(*opening)
            self.assertEqual((row.opening, row.size), (len(opening), len(opening)))
            self.assertEqual(row.nexts(row.size - 1), (row.size,))
            for place in range(row.size):
                self.assertIs(row.holds(place), HOLD in opening[:place] or TRY in opening[:place])
                self.assertIs(row.is_locked(place), LOCK in opening[:place] and UNLOCK not in opening[:place])
                self.assertIs(row.is_under(place), False)

    def test_openings_and_more(self):
        for opening in OPENINGS:
            row = HandRow(*opening, ENTER, LOCK, UNLOCK, LEAVE, LET)
            end = len(opening)
            self.assertEqual((row.opening, row.size), (end, end + 5))
            self.assertEqual(standings(row)[end:], [(True, False, False), (True, True, False), (True, True, True),
                                                    (True, True, False), (True, False, False)])

    def test_ways_out_of_none_to_four_items(self):
        for many in range(5):
            row = WorkRow(TOUCH, ask(*(USE,) * many), TOUCH)
            end = 3 + many
            self.assertEqual((row.size, len(row)), (end, 3))
            self.assertEqual(row.nexts(1), (2 + many, 2 if many else end))
            for at in range(many):
                self.assertEqual(row.nexts(2 + at), (3 + at if at + 1 < many else end,))
                self.assertEqual(row.item(2 + at), USE)
            self.assertEqual(row.nexts(end - 1), (end,))

    def test_asks_behind_one_another(self):
        row = WorkRow(ask(), ask(TOUCH), ask(USE, USE, mark="dead"), ask(mark="dead"))
        self.assertEqual([row.nexts(place) for place in range(row.size)],
                         [(1, 7), (3, 2), (7,), (6, 4), (5,), (7,), (7, 7)])

    def test_ask_at_the_end(self):
        row = HandRow(LOOK, HOLD, ask(USE, LET))
        self.assertEqual([row.nexts(place) for place in range(5)], [(1,), (2,), (5, 3), (4,), (5,)])

    def test_what_ways_out_do_is_not_so_on_the_row(self):
        row = WorkRow(LOCK, ENTER, ask(LEAVE, UNLOCK), UNLOCK, ask(LEAVE), LEAVE)
        self.assertEqual(standings(row), [
            (False, False, False), (False, False, True), (False, True, True), (False, True, True),
            (False, False, True), (False, True, True), (False, True, False), (False, True, False),
            (False, True, False)])

    def test_entered_in_a_way_out(self):
        row = HandRow(LOOK, TRY, ask(LOCK, ENTER, LEAVE, UNLOCK), TOUCH, LET)
        self.assertEqual([row.is_under(place) for place in range(row.size)], [False] * 5 + [True] + [False] * 3)
        self.assertEqual([row.is_locked(place) for place in range(row.size)], [False] * 4 + [True] * 3 + [False] * 2)

    def test_works_never_hold(self):
        row = WorkRow(ENTER, LOCK, UNLOCK, LEAVE)
        self.assertEqual([row.holds(place) for place in range(4)], [False] * 4)

    def test_fourteen_items(self):
        self.assertEqual(WorkRow(*(USE,) * 14).size, 14)
        self.assertEqual(HandRow(LOOK, HOLD, *(USE,) * 12).size, 14)
        self.assertEqual(WorkRow(*(ask(USE, USE, USE, USE),) * 2, ask(USE, USE, USE)).size, 14)
        self.assertEqual(WorkRow(USE).size, 1)

    def test_against_the_model(self):
        for seed in range(150):
            maker = Maker(seed)
            for kind, parts in ((HandRow, maker.hands(("job",))), (WorkRow, maker.work(("job",)))):
                row = kind(*parts)
                self.assertEqual(row.size, model.end_of(parts))
                for place in range(row.size):
                    told = (row.item(place), row.nexts(place), row.holds(place), row.is_under(place),
                            row.is_locked(place))
                    expected = (model.item_at(parts, place), model.nexts(parts, place), model.holds(parts, place),
                                model.is_under(parts, place), model.is_locked(parts, place))
                    self.assertEqual(told, expected, (parts, place))

    def test_kinds_of_what_is_told(self):
        row = HandRow(*EXAMPLE)
        for place in range(row.size):
            self.assertIsInstance(row.nexts(place), tuple)
            for told in (row.holds(place), row.is_under(place), row.is_locked(place)):
                self.assertIsInstance(told, bool)

    def test_no_places(self):
        for row in (HandRow(*EXAMPLE), WorkRow(USE), WorkRow(ask(USE), TOUCH)):
            for value in not_within(0, row.size - 1):
                for told in (row.item, row.nexts, row.holds, row.is_under, row.is_locked):
                    with self.assertRaises(InvalidNumber) as caught:
                        told(value)
                    self.assertIs(caught.exception.value, value)

    def test_places_of(self):
        row = HandRow(*EXAMPLE)
        self.assertEqual(row.places_of("let"), [5, 8])
        self.assertEqual(row.places_of("leave"), [4, 7])
        self.assertEqual(row.places_of("ask"), [3])
        self.assertEqual(row.places_of("look"), [0])
        self.assertEqual(row.places_of("lock"), [])
        self.assertEqual(row.places_of("gone"), [])
        self.assertEqual(WorkRow(START, ask(START), START).places_of("start"), [0, 2, 3])
        told = row.places_of("let")
        told.append(9)
        self.assertEqual(row.places_of("let"), [5, 8])

    def test_by_name(self):
        for row in (HandRow(*EXAMPLE), WorkRow(USE, LOCK, UNLOCK)):
            self.assertEqual((row.item(place=1), row.nexts(place=1)), (row.item(1), row.nexts(1)))
            self.assertEqual((row.holds(place=2), row.is_under(place=2), row.is_locked(place=2)), standings(row)[2])
            self.assertEqual(row.places_of(word="lock"), row.places_of("lock"))
        self.assertEqual(HandRow.of(items=EXAMPLE), HandRow(*EXAMPLE))
        self.assertEqual(WorkRow.of(items=[USE]), WorkRow(USE))
        self.assertEqual(PullRow.of(steps=[("out",)]), PullRow(("out",)))


class NoItems(Refusing):
    def test_each_place_in_the_row(self):
        for value in NO_ITEMS:
            for at in range(len(EXAMPLE) + 1):
                items = list(EXAMPLE)
                items.insert(at, value)
                self.refused(HandRow, items, at if at < 4 else at + 2)
            self.refused(WorkRow, [value], 0)
            self.refused(WorkRow, [ask(USE, USE), value], 3)

    def test_each_place_in_a_way_out(self):
        for value in NO_ITEMS + (LOOK, HOLD, TRY, ask(), ask(LET)):
            for at in range(4):
                way_out = [USE, USE, USE]
                way_out.insert(at, value)
                self.both_refused((USE, ask(*way_out), USE), 2 + at)
                self.refused(WorkRow, (USE, ask(USE), ask(*way_out), USE), 4 + at)

    def test_ways_out_that_are_no_tuples(self):
        for way_out in ([], [USE], None, "let", {}, True, 0, Same(), Refuses(), {USE}):
            self.both_refused((USE, ("ask", "gone", way_out), USE), 1)

    def test_ways_out_that_are_too_long(self):
        for many in (5, 6, 14):
            self.both_refused((USE, ask(*(USE,) * many), USE), 1)
            self.both_refused((ask(*("walk",) * many),), 0)

    def test_marks_that_are_no_names(self):
        for mark in ODD:
            self.both_refused((USE, ("ask", mark, (LOOK,)), USE), 1)

    def test_first_of_several(self):
        self.both_refused((ask(LOOK), "walk"), 1)
        self.both_refused((ask(USE, "walk"), ask([], [])), 2)
        self.both_refused((("ask", "gone", [USE]), "walk"), 0)

    def test_ahead_of_how_many_there_are(self):
        self.refused(WorkRow, (USE,) * 20 + (None,), 20)
        self.refused(HandRow, (USE,) * 20 + (None,), 20)
        self.refused(WorkRow, (ask(USE, USE, USE, USE),) * 5 + (ask(None),), 26)

    def test_ahead_of_what_may_not_stand(self):
        self.refused(HandRow, (HOLD, "walk"), 1)
        self.refused(HandRow, (LOOK, HOLD, LEAVE, ask(LOOK)), 4)
        self.refused(WorkRow, (LOOK, LET, "walk"), 2)


class NoRows(Refusing):
    def test_none(self):
        self.refused(HandRow, (), None)
        self.refused(WorkRow, (), None)

    def test_more_than_fourteen(self):
        for many in (13, 14, 30):
            self.refused(HandRow, (LOOK, HOLD) + (USE,) * many, None)
            self.refused(WorkRow, (USE,) * (many + 2), None)
        self.refused(WorkRow, (ask(USE, USE, USE, USE),) * 3, None)
        self.refused(HandRow, EXAMPLE + EXAMPLE, None)

    def test_ahead_of_what_may_not_stand(self):
        self.refused(HandRow, (HOLD,) * 15, None)
        self.refused(WorkRow, (LEAVE,) * 15, None)

    def test_other_kinds(self):
        for kind in (HandRow, WorkRow):
            for value in (None, True, 0, "", "look", b"", {}, {"look": 0}, {LOOK}, frozenset(), iter([USE]), range(0),
                          HandRow(*EXAMPLE), WorkRow(USE), PullRow(), Same(), Refuses(), object()):
                with self.assertRaises(InvalidItem) as caught:
                    kind.of(value)
                self.assertIsNone(caught.exception.number)

    def test_texts_and_lists_of_them(self):
        for items in (["look"], ["look", "hold"], [""], "lo"):
            self.refused(HandRow, list(items), 0)
            self.refused(WorkRow, list(items), 0)

    def test_no_openings(self):
        for items, number in (
                ((LOOK,), None), ((LOCK,), None), ((LOCK, LOOK), None), ((LOCK, LOOK, HOLD), None),
                ((LOCK, LOOK, TRY), None), ((LOCK, LOOK, UNLOCK), None),
                ((HOLD,), 0), ((TRY, LOOK), 0), ((USE, LOOK, HOLD), 0), ((ENTER,), 0), ((LET,), 0), ((UNLOCK,), 0),
                ((LOOK, LOOK), 1), ((LOOK, USE, HOLD), 1), ((LOOK, LOCK, HOLD), 1), ((LOOK, LET), 1),
                ((LOCK, HOLD), 1), ((LOCK, LOCK), 1), ((LOCK, UNLOCK, LOOK, HOLD), 1), ((LOCK, TRY), 1),
                ((LOCK, LOOK, LOOK), 2), ((LOCK, LOOK, USE), 2), ((LOCK, LOOK, LOCK), 2), ((LOCK, LOOK, LET), 2),
                ((LOCK, LOOK, HOLD, USE), 3), ((LOCK, LOOK, HOLD, LET), 3), ((LOCK, LOOK, TRY, TRY), 3),
                ((LOCK, LOOK, HOLD, LOCK), 3), ((LOCK, LOOK, UNLOCK, UNLOCK), 3), ((LOCK, LOOK, UNLOCK, LET), 3),
                ((ask(USE, USE),), 0), ((LOOK, ask(USE, USE), HOLD), 1), ((LOCK, LOOK, HOLD, ask()), 3)):
            self.refused(HandRow, items, number)

    def test_no_opening_ahead_of_the_rest(self):
        self.refused(HandRow, (LOOK, LEAVE, LEAVE), 1)
        self.refused(HandRow, (LOCK, LOOK, HOLD, ENTER, LOOK), 3)

    def test_no_opening_again(self):
        for word in (LOOK, HOLD, TRY):
            self.both_refused((USE, word, USE), 1)
            self.both_refused((word,), 0)

    def test_under_way_twice_or_not(self):
        self.both_refused((ENTER, ENTER, LEAVE), 1)
        self.both_refused((ENTER, USE, ask(LEAVE), ENTER, LEAVE), 4)
        self.both_refused((LEAVE,), 0)
        self.both_refused((ENTER, LEAVE, LEAVE), 2)
        self.both_refused((ENTER, LEAVE, ask(LEAVE)), 3)
        self.both_refused((ask(ENTER, ENTER, LEAVE),), 2)
        self.both_refused((ask(ENTER, LEAVE, LEAVE),), 3)

    def test_locked_twice_or_not(self):
        self.both_refused((LOCK, LOCK, UNLOCK), 1)
        self.both_refused((UNLOCK,), 0)
        self.both_refused((LOCK, UNLOCK, UNLOCK), 2)
        self.both_refused((LOCK, ask(UNLOCK), LOCK, UNLOCK), 3)
        self.both_refused((ask(UNLOCK),), 1)
        self.both_refused((LOCK, ask(LOCK), UNLOCK), 2)

    def test_what_ways_out_do_does_not_help_the_row(self):
        self.both_refused((ENTER, ask(LEAVE), USE), 3)
        self.both_refused((ask(ENTER, LEAVE), LEAVE), 3)
        self.both_refused((LOCK, ask(UNLOCK), UNLOCK, UNLOCK), 4)

    def test_lets(self):
        for opening in OPENINGS:
            end = len(opening)
            self.assertEqual(HandRow(*opening, LET).size, end + 1)
            self.assertEqual(HandRow(*opening, ask(LET), LET).size, end + 3)
            self.assertEqual(HandRow(*opening, ask(USE, LET)).size, end + 3)
            self.refused(HandRow, opening + (LET, USE), end)
            self.refused(HandRow, opening + (LET, LET), end)
            self.refused(HandRow, opening + (LET, ask()), end)
            self.refused(HandRow, opening + (LET, ask(LET)), end)
            self.refused(HandRow, opening + (ENTER, LET), end + 1)
            self.refused(HandRow, opening + (LOCK, LET), end + 1)
            self.refused(HandRow, opening + (ENTER, LET, LEAVE), end + 1)
            self.refused(HandRow, opening + (ask(LET, USE), LET), end + 1)
            self.refused(HandRow, opening + (ENTER, ask(LET), LEAVE), end + 2)
            self.refused(HandRow, opening + (LOCK, ask(USE, LET), UNLOCK), end + 3)

    def test_no_lets_in_works(self):
        self.refused(WorkRow, (LET,), 0)
        self.refused(WorkRow, (USE, LET), 1)
        self.refused(WorkRow, (USE, ask(USE, LET), USE), 3)

    def test_ends_under_way_or_locked(self):
        for begin, stop in ((ENTER, LEAVE), (LOCK, UNLOCK)):
            self.both_refused((begin,), 0)
            self.both_refused((begin, USE), 1)
            self.both_refused((begin, stop, USE, begin), 3)
            self.both_refused((begin, ask(), stop), 1)
            self.both_refused((begin, ask(USE), stop), 2)
            self.both_refused((begin, ask(USE, TOUCH, USE), stop), 4)
            self.both_refused((ask(begin), USE), 1)
            self.both_refused((ask(USE, begin), USE), 2)
            self.both_refused((begin, ask(stop)), 1)
            self.both_refused((begin, USE, ask(stop, USE)), 2)
            self.both_refused((begin, ask(USE), stop, stop), 2)
            self.both_refused((begin, stop, stop, begin), 2)

    def test_least_number(self):
        self.both_refused((ENTER, ask(USE), ENTER), 2)
        self.both_refused((ENTER, ask(ENTER), LEAVE), 2)
        self.both_refused((USE, ask(LEAVE), LEAVE), 2)
        self.both_refused((ENTER, ask(USE, LOCK, LOCK), USE), 4)

    def test_against_the_model(self):
        chance = random.Random(5)
        bare = [LOOK, HOLD, TRY, LET, ENTER, LEAVE, TOUCH, LOCK, UNLOCK]
        told = {}
        for seed in range(1500):
            maker = Maker(seed)
            is_hand = seed % 2 == 0
            row = list(maker.hands() if is_hand else maker.work())
            for _ in range(chance.randrange(1, 3)):
                at = chance.randrange(len(row) + 1)
                cut = chance.randrange(2)
                new = [chance.choice(bare)] if chance.randrange(3) else []
                if not chance.randrange(4):
                    new = [ask(*[chance.choice(bare[3:]) for _ in range(chance.randrange(5))])]
                row[at:at + cut] = new
            expected = expected_refusal(row, is_hand)
            told[expected is None] = told.get(expected is None, 0) + 1
            if expected is None:
                self.assertEqual((HandRow if is_hand else WorkRow)(*row).parts, tuple(row))
            else:
                self.refused(HandRow if is_hand else WorkRow, row, expected[0])
        self.assertGreater(min(told[True], told[False]), 200)


class AsTuples(unittest.TestCase):
    def rows(self):
        return [(HandRow, EXAMPLE), (HandRow, (LOOK, HOLD)), (WorkRow, (ask(USE), START, TOUCH)), (WorkRow, (USE,)),
                (PullRow, (("out",), ("mark", "gone"), ("wait",), ("wait",))), (PullRow, ())]

    def test_parts(self):
        for kind, parts in self.rows():
            for row in (kind(*parts), kind.of(parts), kind.of(list(parts))):
                self.assertIsInstance(row, kind)
                self.assertIsInstance(row.parts, tuple)
                self.assertEqual(row.parts, parts)
                self.assertEqual((len(row), list(row), tuple(row)), (len(parts), list(parts), parts))
                self.assertEqual([row[index] for index in range(len(parts))], list(parts))

    def test_changed_lists(self):
        for kind, parts in self.rows():
            passed = list(parts)
            row = kind.of(passed)
            passed.append(("walk",))
            passed[:1] = []
            self.assertEqual(row.parts, parts)

    def test_no_indexes(self):
        for kind, parts in self.rows():
            row = kind(*parts)
            for value in not_within(0, len(parts) - 1):
                with self.assertRaises(InvalidNumber) as caught:
                    row[value]
                self.assertIs(caught.exception.value, value)

    def test_members(self):
        for kind, parts in self.rows():
            row = kind(*parts)
            for part in parts:
                self.assertIs(part in row, True)
                self.assertIs(list(part) in row, False)
            for value in ODD + (LET[0], ("out", "gone"), ("idle", "job"), ("use", None)):
                self.assertIs(value in row, False, value)
            for value in (HOLD, LET, LEAVE, ("start", "tick"), ask(), ask(mark="dead"), ("down",), ("mark", "dead")):
                self.assertIs(value in row, value in parts, value)

    def test_what_stands_in_ways_out_is_no_member(self):
        row = HandRow(LOOK, TRY, ask(USE, LET))
        self.assertIs(USE in row, False)
        self.assertIs(LET in row, False)
        self.assertIs(ask(USE, LET) in row, True)
        self.assertIs(ask(USE) in row, False)
        self.assertIs(("ask", "gone", [USE, LET]) in row, False)
        self.assertIs(("ask", "gone", Same()) in row, False)
        self.assertEqual(len(row), 3)

    def test_equality(self):
        rows = self.rows()
        for kind, parts in rows:
            for other, others in rows:
                self.assertIs(kind(*parts) == other(*others), (kind, parts) == (other, others))
                self.assertIs(kind(*parts) != other(*others), (kind, parts) != (other, others))

    def test_equal_to_nothing_else(self):
        for kind, parts in self.rows():
            row = kind(*parts)
            for value in (parts, list(parts), None, True, 0, "", object(), Same(), Refuses()):
                self.assertIs(row == value, False)
                self.assertIs(row != value, True)

    def test_kinds_differ(self):
        self.assertIs(WorkRow(LOCK, UNLOCK) == PullRow(LOCK, UNLOCK), False)
        self.assertIs(PullRow(LOCK, UNLOCK) == WorkRow(LOCK, UNLOCK), False)

    def test_iterated_twice(self):
        row = HandRow(*EXAMPLE)
        self.assertEqual([(one, two) for one in row for two in row], [(a, b) for a in EXAMPLE for b in EXAMPLE])

    def test_read_only(self):
        for kind, parts in self.rows():
            with self.assertRaises(AttributeError):
                kind(*parts).parts = ()


class Steps(unittest.TestCase):
    OUT, WAIT, EMPTY, DOWN = ("out",), ("wait",), ("empty",), ("down",)
    MARK, DEAD, BAR = ("mark", "gone"), ("mark", "dead"), ("bar", "job")

    def refused(self, steps, index):
        for make in (lambda: PullRow(*steps), lambda: PullRow.of(tuple(steps)), lambda: PullRow.of(list(steps))):
            with self.assertRaises(InvalidStep, msg=steps) as caught:
                make()
            self.assertEqual(caught.exception.index, index, steps)

    def test_none_and_nine(self):
        self.assertEqual(PullRow().parts, ())
        self.assertEqual(len(PullRow(*(self.WAIT,) * 9)), 9)

    def test_ten(self):
        self.refused((self.WAIT,) * 10, None)
        self.refused((self.OUT,) * 10, None)
        self.refused((UNLOCK,) * 20, None)

    def test_no_steps(self):
        for value in ODD + ("out", ["out"], ("walk",), LOOK, ("mark",), ("out", "gone"), ("bar", "Job"), START, ask()):
            for at in range(3):
                steps = [self.OUT, self.WAIT]
                steps.insert(at, value)
                self.refused(steps, at)
            self.refused((UNLOCK,) * 12 + (value,), 12)

    def test_other_kinds(self):
        for value in (None, True, 0, "", "out", {}, {self.OUT}, iter([self.OUT]), PullRow(), HandRow(*EXAMPLE), Same()):
            with self.assertRaises(InvalidStep) as caught:
                PullRow.of(value)
            self.assertIsNone(caught.exception.index)

    def test_once_at_most(self):
        for step in (self.OUT, self.DOWN, LET, self.MARK, self.DEAD):
            self.refused((step, step), 1)
            self.refused((self.WAIT, step, self.WAIT, step, step), 3)

    def test_again_and_again(self):
        for step in (self.WAIT, self.EMPTY, self.BAR, ("forget", "job"), ("idle", "job")):
            self.assertEqual(len(PullRow(step, step, step)), 3)

    def test_two_marks(self):
        row = PullRow(self.MARK, self.DEAD)
        self.assertEqual((row.first("mark", "gone"), row.first("mark", "dead")), (0, 1))
        self.refused((self.MARK, self.DEAD, self.MARK), 2)

    def test_locks(self):
        self.refused((UNLOCK,), 0)
        self.refused((self.OUT, UNLOCK, LOCK), 1)
        self.refused((LOCK, LOCK), 1)
        self.refused((LOCK, self.OUT, LOCK), 2)
        self.refused((LOCK, UNLOCK, UNLOCK), 2)
        self.assertEqual(len(PullRow(LOCK)), 1)
        self.assertEqual(len(PullRow(LOCK, UNLOCK, LOCK, self.OUT, UNLOCK, LOCK)), 6)

    def test_first_that_may_not_stand(self):
        self.refused((self.OUT, LOCK, self.OUT, LOCK), 2)
        self.refused((self.OUT, LOCK, LOCK, self.OUT), 2)

    def test_has_lock(self):
        row = PullRow(self.OUT, LOCK, self.WAIT, UNLOCK, self.WAIT, LOCK)
        self.assertEqual([row.has_lock(done) for done in range(7)], [False, False, True, True, False, False, True])
        self.assertIs(PullRow().has_lock(0), False)
        self.assertIs(row.has_lock(done=2), True)

    def test_first(self):
        row = PullRow(self.WAIT, self.OUT, self.WAIT, self.MARK, self.BAR)
        self.assertEqual((row.first("wait"), row.first("out"), row.first("mark", "gone"), row.first("bar", "job")),
                         (0, 1, 3, 4))
        for step in (("empty",), ("mark", "dead"), ("bar", "gone"), ("mark",), ("out", "gone"), ("gone",), (), (0,),
                     (None,), (Same(),), (self.OUT,), ("bar", Same())):
            self.assertIsNone(row.first(*step), step)

    def test_is_behind(self):
        row = PullRow(self.WAIT, self.OUT, self.WAIT, self.MARK)
        for done in range(5):
            self.assertIs(row.is_behind(done, "wait"), done > 0)
            self.assertIs(row.is_behind(done, "out"), done > 1)
            self.assertIs(row.is_behind(done, "mark", "gone"), done > 3)
            self.assertIs(row.is_behind(done, "mark", "dead"), False)
            self.assertIs(row.is_behind(done, "down"), False)
            self.assertIs(row.is_behind(done, "walk"), False)
            for step in ((Same(),), ("mark", Same()), (self.OUT,), ()):
                self.assertIs(row.is_behind(done, *step), False)

    def test_no_numbers_of_done_steps(self):
        for row in (PullRow(), PullRow(self.OUT, self.WAIT)):
            for value in not_within(0, len(row)):
                for told in (lambda: row.has_lock(value), lambda: row.is_behind(value, "out"),
                             lambda: row.is_behind(value, "walk"), lambda: row.is_behind(value)):
                    with self.assertRaises(InvalidNumber) as caught:
                        told()
                    self.assertIs(caught.exception.value, value)

    def test_example(self):
        self.assertEqual(PullRow(("lock",), ("mark", "gone")).first("mark", "gone"), 1)


if __name__ == "__main__":
    unittest.main()
