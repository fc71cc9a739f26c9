import inspect
import unittest

import model
import reaches
import samples
from making import Maker
from odd import ODD, Refuses, Same, not_within
from samples import (DOWN, EMPTY, ENTER, HANDS, HOLD, LEAVE, LET, LOCK, LOCKED, LOOK, MARK, OUT, SOUND, TOUCH, TRY,
                     UNLOCK, USE, WAIT)

from pulledout.books import Book
from pulledout.errors import InvalidNumber, LimitExceeded
from pulledout.faults import faults
from pulledout.rings import Reach, askable, is_tidy, unsafe_places
from pulledout.runs import Run, fault_at_end

COME, STEP = ("come",), ("step",)
LATE = (MARK, WAIT, DOWN, LET)
# Six waits beside one enter, or one fewer: so many choices of two pairs.
FIVE = (WAIT,) * 5 + (DOWN, LET)
SIX = (WAIT,) * 6 + (DOWN, LET)
ENTERING = (LOOK, TRY, ENTER, TOUCH, LEAVE, LET)
# A reach that has rings in each of its four cases, and one with some cases that have none.
TWO_WAITS = (OUT, MARK, WAIT, WAIT, DOWN, LET)
EARLY_TWICE = (WAIT, WAIT, MARK, DOWN, LET)


def go(place):
    return ("go", place)


def by_hand(*places):
    return [("hand", place) for place in places]


def by_puller(*indexes):
    return [("puller", index) for index in indexes]


def book(hands, *puller):
    return Book(hands, puller=puller)


def drawn(many):
    """Pairs of parts and the book, most of them with several choices; no one has too many."""
    told = [(parts, samples.made(parts)) for parts, _ in samples.NAMED.values()]
    seed = 0
    while len(told) < many:
        seed += 1
        maker = Maker(seed)
        parts = maker.book(seed % 2, many=6)
        if maker.may(50):
            parts = (maker.one_of([HANDS, ENTERING, LOCKED + (LOCK, TOUCH, UNLOCK, LET)]), {}, parts[2])
        if any(len(step) > 1 and step[0] != "mark" for step in parts[2]) and not parts[1]:
            continue
        if all(len(double(parts, place)) <= 5 for place in reaches.askable(parts)):
            told.append((parts, samples.made(parts)))
    return told


def double(parts, place):
    return [choice for choice in reaches.choices(parts, place) if len(choice) == 2]


class Examples(unittest.TestCase):
    def test_of_the_interface(self):
        told = book(HANDS, *LATE)
        self.assertEqual((askable(told), unsafe_places(told)), ([6], []))
        reach = Reach(told, 6)
        self.assertEqual(reach.path(), [0, 1, 2, 3, 6])
        self.assertEqual(reach.choices(), [((("hand", 6), ("puller", 1)), (("puller", 1), ("hand", 2)))])
        self.assertIs(reach.is_ring((0,), (("hand", 6), ("puller", 1), ("puller", 2))), True)

    def test_by_name(self):
        told = book(HANDS, *LATE)
        self.assertIs(is_tidy(book=told), True)
        self.assertEqual((askable(book=told), unsafe_places(book=told)), ([6], []))
        reach = Reach(book=told, place=6)
        self.assertEqual(reach.pairs_of(case=(0,)), reach.pairs_of((0,)))
        self.assertEqual(reach.order(case=(0,)), reach.order((0,)))
        ring = reach.ring(case=(1,))
        self.assertIs(reach.is_ring(case=(1,), value=ring), True)
        self.assertIs(reach.is_answer(value=reach.answer()), True)


class Tidy(unittest.TestCase):
    def test_pullers(self):
        for puller, tidy in (((), True), ((LET,), True), ((OUT, MARK, WAIT, EMPTY), True), (SOUND, True),
                             ((LET, OUT), True), ((LET, DOWN, LOCK, UNLOCK, OUT), True), ((LET, MARK), False),
                             ((LET, WAIT), False), ((LET, EMPTY), False), ((OUT, LET, DOWN, MARK), False),
                             ((WAIT, LET), True), ((MARK, EMPTY, LET, LOCK), True)):
            self.assertIs(is_tidy(book((LOOK, HOLD, LET), *puller)), tidy, puller)

    def test_works(self):
        for word in ("bar", "forget", "idle"):
            for puller, tidy in (((LET, (word, "job")), False), (((word, "job"), LET), True), (((word, "job"),), True)):
                self.assertIs(is_tidy(Book((LOOK, HOLD, LET), {"job": (USE,)}, puller=puller)), tidy, puller)

    def test_askable(self):
        bare = (LOOK, HOLD, ("ask", "gone", (TOUCH, LET)), TOUCH, USE, TOUCH, LET)
        self.assertEqual(askable(book(bare, LET, OUT)), [1, 3, 5, 7])
        self.assertEqual(askable(book(bare, LET, MARK)), [3, 5, 7])
        self.assertEqual(askable(book(bare)), [1, 3, 5, 7])
        self.assertEqual(askable(book(LOCKED + (LET,), OUT, LET)), [2])
        self.assertEqual(askable(book((LOCK, LOOK, UNLOCK, HOLD, TOUCH, LET), OUT, LET)), [3, 4])
        self.assertEqual(askable(book((LOOK, TRY, LET), LET)), [])
        self.assertEqual(askable(book(HANDS, *SOUND)), [6])

    def test_against_the_points(self):
        for parts, told in drawn(150):
            self.assertIs(is_tidy(told), reaches.is_tidy(parts))
            self.assertEqual(askable(told), reaches.askable(parts))


class Refused(unittest.TestCase):
    def test_no_askable_place(self):
        bare = book((LOOK, HOLD, TOUCH, USE, LET), OUT, LET)
        for value in not_within(1, 2) + (0, 3, 4, 5, True):
            with self.assertRaises(InvalidNumber) as caught:
                Reach(bare, value)
            self.assertIs(caught.exception.value, value)
        untidy = book((LOOK, HOLD, TOUCH, USE, LET), OUT, LET, WAIT)
        self.assertEqual(Reach(untidy, 2).goal, 2)
        with self.assertRaises(InvalidNumber):
            Reach(untidy, 1)

    def test_too_many_choices(self):
        self.assertEqual(len(Reach(book(ENTERING, *FIVE), 3)), 32)
        for puller in (SIX, (WAIT,) * 9, (EMPTY,) + FIVE, (LOCK, UNLOCK) + FIVE):
            told = book((LOOK, TRY, LOCK, ENTER, TOUCH, LEAVE, UNLOCK, LET), *puller)
            for function in (lambda: Reach(told, 4), lambda: unsafe_places(told)):
                with self.assertRaises(LimitExceeded) as caught:
                    function()
                self.assertEqual(caught.exception.limit, 5)
            for value in (None, True, 3, 5):
                with self.assertRaises(InvalidNumber):
                    Reach(told, value)

    def test_choices_of_one_pair_are_free(self):
        told = book((LOOK, TRY, LOCK, ENTER, TOUCH, LEAVE, UNLOCK, LET), *(WAIT,) * 5, DOWN, LET, LOCK)
        self.assertEqual(len(Reach(told, 4)), 32)
        self.assertEqual([len(choice) for choice in Reach(told, 4).choices()], [2, 2, 2, 2, 2, 1])
        self.assertEqual(list(Reach(told, 4).cases())[-1], (1, 1, 1, 1, 1, 0))
        locks = (LOCK, USE, UNLOCK)
        told = book((LOOK, TRY) + locks * 3 + (TOUCH, LET), LOCK, UNLOCK, LOCK, DOWN)
        self.assertEqual([len(choice) for choice in Reach(told, 11).choices()], [2, 1] * 3)
        self.assertEqual(len(Reach(told, 11)), 8)

    def test_a_later_place_has_too_many(self):
        told = book((LOOK, TRY, TOUCH, ENTER, TOUCH, LEAVE, LET), *SIX)
        self.assertEqual(len(Reach(told, 2)), 1)
        with self.assertRaises(LimitExceeded):
            unsafe_places(told)

    def test_no_cases(self):
        reach = Reach(book(HANDS, *TWO_WAITS), 6)
        for value in ODD + ((), (0,), (0, 0, 0), (0, 2), (-1, 0), (2, 0), (True, 0), (0, False), [0, 0], (0, None), 0,
                            "00", (Same(), 0), (0, Refuses()), (0.0, 0)):
            for function in (reach.pairs_of, reach.order, reach.ring, lambda case: reach.is_ring(case, ()),
                             lambda case: reach.is_ring(case, None)):
                with self.assertRaises(InvalidNumber) as caught:
                    function(value)
                self.assertIs(caught.exception.value, value)

    def test_the_case_of_no_choices(self):
        reach = Reach(book((LOOK, TRY, TOUCH, LET), DOWN, LET), 2)
        self.assertEqual((list(reach.cases()), len(reach)), ([()], 1))
        self.assertEqual(reach.pairs_of(()), reach.pairs())
        for value in ((0,), [], None):
            with self.assertRaises(InvalidNumber):
                reach.pairs_of(value)


class Told(unittest.TestCase):
    def test_a_touch(self):
        reach = Reach(book(HANDS, *SOUND), 6)
        self.assertEqual((reach.goal, reach.lacks), (6, False))
        self.assertEqual(reach.path(), [0, 1, 2, 3, 6])
        self.assertEqual(reach.events(), by_hand(0, 1, 2, 3, 6) + by_puller(0, 1, 2, 3, 4))
        ahead = [(("hand", 0), ("hand", 1)), (("hand", 1), ("hand", 2)), (("hand", 2), ("hand", 3)),
                 (("hand", 3), ("hand", 6)), (("hand", 0), ("puller", 0)), (("hand", 1), ("puller", 4)),
                 (("hand", 3), ("puller", 1)), (("puller", 3), ("hand", 6))]
        ahead += [(("puller", index), ("puller", index + 1)) for index in range(4)]
        self.assertEqual(reach.pairs(), sorted(ahead))
        self.assertEqual(reach.choices(), [((("hand", 6), ("puller", 2)), (("puller", 2), ("hand", 2)))])
        self.assertEqual((list(reach.cases()), len(reach)), ([(0,), (1,)], 2))
        self.assertEqual(reach.pairs_of((1,)), sorted(ahead + [(("puller", 2), ("hand", 2))]))

    def test_a_place_in_a_way_out(self):
        hands = (LOOK, HOLD, ENTER, ("ask", "dead", (LEAVE, LET)), TOUCH, ("ask", "gone", (LEAVE, TOUCH, LET)), LEAVE, LET)
        reach = Reach(book(hands, MARK, WAIT, DOWN, LET), 9)
        self.assertEqual(reach.path(), [0, 1, 2, 3, 6, 7, 8, 9])
        self.assertIs(reach.lacks, False)
        ahead = [(("puller", 0), ("hand", 7)), (("puller", 2), ("hand", 9)), (("hand", 6), ("puller", 2)),
                 (("hand", 1), ("puller", 3))]
        self.assertEqual([pair for pair in reach.pairs() if pair[0][0] != pair[1][0]], sorted(ahead))
        # The hand has left by then.
        self.assertEqual(reach.choices(), [((("hand", 8), ("puller", 1)), (("puller", 1), ("hand", 2)))])
        self.assertIs(Reach(book(hands, WAIT, DOWN, LET), 9).lacks, True)
        self.assertIs(Reach(book(hands, WAIT, DOWN, ("mark", "dead"), LET), 9).lacks, True)
        self.assertIs(Reach(book(hands, WAIT, DOWN, LET), 6).lacks, False)
        self.assertIs(Reach(book(hands, MARK, WAIT, LET), 9).lacks, True)
        self.assertIs(Reach(book(hands, MARK, WAIT, DOWN), 9).lacks, False)

    def test_asks_of_one_mark_doubled(self):
        hands = (LOOK, TRY, ("ask", "gone", (USE, LET)), ("ask", "gone", (TOUCH, LET)), TOUCH, LET)
        reach = Reach(book(hands, MARK, DOWN, LET), 6)
        self.assertEqual(reach.path(), [0, 1, 2, 5, 6])
        self.assertEqual([pair for pair in reach.pairs() if pair[0][0] != pair[1][0]],
                         [(("hand", 1), ("puller", 2)), (("hand", 2), ("puller", 0)), (("puller", 0), ("hand", 5)),
                          (("puller", 1), ("hand", 6))])
        self.assertEqual(reach.answer()[0], "run")
        behind = Reach(book(hands, MARK, DOWN, LET), 8)
        self.assertEqual([pair for pair in behind.pairs() if pair[0][0] != pair[1][0]],
                         [(("hand", 1), ("puller", 2)), (("hand", 2), ("puller", 0)), (("hand", 5), ("puller", 0)),
                          (("puller", 1), ("hand", 8))])
        self.assertEqual(behind.answer()[0], "run")
        late = Reach(book(hands, DOWN, MARK, LET), 6)
        self.assertEqual(late.answer()[0], "run")

    def test_a_hold(self):
        reach = Reach(book((LOOK, HOLD, LET), OUT, EMPTY, LET), 1)
        self.assertEqual((reach.path(), reach.choices(), reach.lacks), ([0, 1], [], False))
        self.assertEqual(reach.pairs(), [(("hand", 0), ("hand", 1)), (("hand", 0), ("puller", 0)),
                                         (("puller", 0), ("puller", 1)), (("puller", 1), ("puller", 2)),
                                         (("puller", 2), ("hand", 1))])
        self.assertIs(Reach(book((LOOK, HOLD, LET), OUT, EMPTY), 1).lacks, True)
        self.assertEqual(Reach(book((LOOK, HOLD, LET), OUT, EMPTY), 1).answer(), ("never",))
        self.assertEqual(Reach(book((LOOK, HOLD, LET), OUT, EMPTY), 1).pairs(),
                         [(("hand", 0), ("hand", 1)), (("hand", 0), ("puller", 0)), (("puller", 0), ("puller", 1))])

    def test_locks(self):
        hold = Reach(book(LOCKED + (LET,), LOCK, OUT, UNLOCK, LET, LOCK), 2)
        self.assertEqual(hold.choices(), [((("hand", 2), ("puller", 0)), (("puller", 2), ("hand", 0))),
                                          ((("hand", 2), ("puller", 4)),)])
        touch = Reach(book(LOCKED + (LOCK, TOUCH, UNLOCK, LET), LOCK, DOWN, UNLOCK), 5)
        self.assertEqual(touch.choices(), [((("hand", 3), ("puller", 0)), (("puller", 2), ("hand", 0))),
                                           ((("hand", 5), ("puller", 0)), (("puller", 2), ("hand", 4)))])
        self.assertEqual((touch.lacks, len(touch), list(touch.cases())), (False, 4, [(0, 0), (0, 1), (1, 0), (1, 1)]))

    def test_two_unlocks_behind(self):
        # Only the first one gives the lock back that was taken there.
        reach = Reach(book((LOOK, TRY, LOCK, TOUCH, UNLOCK, LET), LOCK, DOWN, UNLOCK, LOCK, UNLOCK), 3)
        self.assertEqual(reach.choices(), [((("hand", 3), ("puller", 0)), (("puller", 2), ("hand", 2))),
                                           ((("hand", 3), ("puller", 3)), (("puller", 4), ("hand", 2)))])
        parts = ((LOOK, TRY, LOCK, TOUCH, UNLOCK, LET), {}, (LOCK, DOWN, UNLOCK, LOCK, UNLOCK))
        self.assertEqual(reach.choices(), reaches.choices(parts, 3))
        self.assertEqual(reach.answer()[0], "run")

    def test_names_that_are_words(self):
        """Works and marks under the words of items and steps are nothing but works and marks."""
        def told(work, mark):
            hands = (LOOK, HOLD, ("start", work), ("ask", mark, (("start", work), LET)), TOUCH, LET)
            named = Book(hands, {work: (USE,)}, puller=(("mark", mark), ("bar", work), DOWN, LET))
            return [(reach.goal, reach.path(), reach.pairs(), reach.choices(), reach.lacks)
                    for reach in [Reach(named, place) for place in askable(named)]]
        known = told("job", "gone")
        self.assertEqual([goal for goal, *_ in known], [1, 6])
        for word in ("look", "hold", "try", "let", "enter", "leave", "touch", "use", "lock", "unlock", "start", "ask", "out",
                     "mark", "wait", "empty", "down", "bar", "forget", "idle"):
            self.assertEqual(told(word, "gone"), known, word)
            self.assertEqual(told("job", word), known, word)

    def test_choices_in_their_order(self):
        hands = LOCKED + (ENTER, LEAVE, LOCK, ENTER, TOUCH, LEAVE, UNLOCK, LET)
        reach = Reach(book(hands, EMPTY, WAIT, LOCK, DOWN), 8)
        self.assertEqual(reach.choices(), [
            ((("hand", 5), ("puller", 1)), (("puller", 1), ("hand", 4))),
            ((("hand", 8), ("puller", 1)), (("puller", 1), ("hand", 7))),
            ((("hand", 8), ("puller", 0)), (("puller", 0), ("hand", 2))),
            ((("hand", 3), ("puller", 2)),),
            ((("hand", 8), ("puller", 2)),)])
        self.assertEqual(len(reach), 8)

    def test_waits_ahead_of_enters(self):
        hands = (LOOK, TRY, ENTER, LEAVE, ENTER, TOUCH, LEAVE, LET)
        reach = Reach(book(hands, WAIT, DOWN, WAIT), 5)
        self.assertEqual([choice[1] for choice in reach.choices()],
                         [(("puller", index), ("hand", place)) for index in (0, 2) for place in (2, 4)])

    def test_works_are_no_events(self):
        reach = Reach(Book((LOOK, TRY, ("start", "job"), TOUCH, LET), {"job": (ENTER, LOCK, UNLOCK, LEAVE)},
                           puller=(("bar", "job"), ("forget", "job"), ("idle", "job"), DOWN, LET)), 3)
        self.assertEqual(reach.events(), by_hand(0, 1, 2, 3) + by_puller(0, 1, 2, 3, 4))
        self.assertEqual(reach.choices(), [])
        self.assertEqual(reach.answer()[0], "run")

    def test_numbers_of_choices(self):
        seen = set()
        for parts, told in drawn(150):
            for place in askable(told):
                reach = Reach(told, place)
                many = len(double(parts, place))
                seen.add(many)
                self.assertEqual(len(reach), 2 ** many)
                self.assertEqual(list(reach.cases()), reaches.cases(parts, place))
        self.assertLessEqual({0, 1, 2, 3}, seen)
        self.assertEqual(len(Reach(book(ENTERING, *FIVE), 3)), 32)
        self.assertEqual(len(Reach(book(ENTERING, *FIVE[1:]), 3)), 16)

    def test_against_the_points(self):
        lacks = set()
        for parts, told in drawn(200):
            for place in askable(told):
                reach = Reach(told, place)
                ahead, lacking = reaches.pairs(parts, place)
                lacks.add(lacking)
                self.assertEqual(reach.goal, place)
                self.assertIs(reach.lacks, lacking)
                self.assertEqual(reach.path(), reaches.path(parts, place))
                self.assertEqual(reach.events(), reaches.events(parts, place))
                self.assertEqual(reach.pairs(), sorted(ahead))
                self.assertEqual(reach.choices(), reaches.choices(parts, place))
                for case in reach.cases():
                    self.assertEqual(reach.pairs_of(case), sorted(reaches.pairs_of(parts, place, case)))
        self.assertEqual(lacks, {True, False})

    def test_a_generator(self):
        reach = Reach(book(HANDS, *TWO_WAITS), 6)
        self.assertTrue(inspect.isgenerator(reach.cases()))
        going = reach.cases()
        self.assertEqual((next(going), next(going)), ((0, 0), (0, 1)))
        self.assertEqual(list(going), [(1, 0), (1, 1)])
        self.assertEqual(list(reach.cases()), [(0, 0), (0, 1), (1, 0), (1, 1)])

    def test_new_lists(self):
        reach = Reach(book(HANDS, *SOUND), 6)
        for function in (reach.path, reach.events, reach.pairs, reach.choices, lambda: reach.pairs_of((0,)),
                         lambda: reach.answer()[1]):
            told = function()
            self.assertIsInstance(told, list)
            function().clear()
            self.assertEqual(function(), told)
            self.assertNotEqual(told, [])
        open_reach = Reach(book(HANDS, *EARLY_TWICE), 6)
        order = open_reach.order((1, 1))
        open_reach.order((1, 1)).clear()
        self.assertEqual(open_reach.order((1, 1)), order)


class OrdersAndRings(unittest.TestCase):
    def test_one_of_the_two(self):
        seen = {True: 0, False: 0}
        for parts, told in drawn(200):
            for place in askable(told):
                reach = Reach(told, place)
                for case in reach.cases():
                    ahead = reaches.pairs_of(parts, place, case)
                    order, ring = reach.order(case), reach.ring(case)
                    self.assertIs(order is None, ring is not None)
                    seen[order is None] += 1
                    if ring is None:
                        self.assertIsInstance(order, list)
                        self.assertEqual(sorted(order), sorted(reach.events()))
                        self.assertTrue(all(order.index(first) < order.index(other) for first, other in ahead))
                    else:
                        self.assertIsInstance(ring, tuple)
                        self.assertTrue(reaches.is_ring(ahead, ring))
                        self.assertIs(reach.is_ring(case, ring), True)
        self.assertGreater(min(seen.values()), 50)

    def test_named(self):
        reach = Reach(book(HANDS, *EARLY_TWICE), 6)
        self.assertEqual([reach.order(case) is None for case in reach.cases()], [True, True, True, False])
        order = reach.order((1, 1))
        self.assertLess(order.index(("puller", 1)), order.index(("hand", 2)))
        self.assertLess(order.index(("hand", 3)), order.index(("puller", 2)))
        self.assertLess(order.index(("puller", 3)), order.index(("hand", 6)))
        self.assertIsNone(reach.ring((1, 1)))
        closed = Reach(book(HANDS, *TWO_WAITS), 6)
        self.assertEqual([closed.order(case) for case in closed.cases()], [None] * 4)


class Rings(unittest.TestCase):
    def check(self, reach, case, value, is_one):
        self.assertIs(reach.is_ring(case, value), is_one, value)

    def test_turned_about(self):
        reach = Reach(book(HANDS, *TWO_WAITS), 6)
        for case in reach.cases():
            ring = reach.ring(case)
            for at in range(len(ring)):
                self.check(reach, case, ring[at:] + ring[:at], True)
            self.check(reach, case, ring + ring, True)
            self.check(reach, case, ring * 3, True)
            if len(ring) > 2:
                self.check(reach, case, ring[::-1], False)

    def test_bent(self):
        for puller in (TWO_WAITS, SOUND, (OUT, MARK, WAIT, EMPTY, DOWN, LET)):
            reach = Reach(book(HANDS, *puller), 6)
            for case in reach.cases():
                ring = reach.ring(case)
                ahead = reach.pairs_of(case)
                bent = [ring[:at] + ring[at + 1:] for at in range(len(ring))]
                bent += [ring[:at] + ring[at:at + 1] + ring[at:] for at in range(len(ring))]
                bent += [ring[:at] + (event,) + ring[at + 1:] for at in range(len(ring)) for event in reach.events()]
                for value in bent:
                    self.check(reach, case, value, reaches.is_ring(ahead, value))
                self.assertGreater([reaches.is_ring(ahead, value) for value in bent].count(False), 4)

    def test_of_another_case(self):
        reach = Reach(book(HANDS, *SOUND), 6)
        self.check(reach, (0,), (("hand", 6), ("puller", 2), ("puller", 3)), True)
        self.check(reach, (1,), (("hand", 6), ("puller", 2), ("puller", 3)), False)
        self.check(reach, (1,), (("hand", 2), ("hand", 3), ("puller", 1), ("puller", 2)), True)
        self.check(reach, (0,), (("hand", 2), ("hand", 3), ("puller", 1), ("puller", 2)), False)

    def test_of_another_reach(self):
        hands = HANDS[:-1] + (TOUCH, LET)
        reach = Reach(book(hands, *SOUND), 6)
        other = Reach(book(hands, *SOUND), 8)
        for case in reach.cases():
            self.check(reach, case, reach.ring(case), True)
        self.assertEqual(other.path(), [0, 1, 2, 3, 6, 7, 8])
        # The other one leaves ahead of its touch, so nothing is waited for that comes behind it.
        self.check(other, (0,), reach.ring((0,)), False)

    def test_kinds(self):
        reach = Reach(book(HANDS, MARK, WAIT, DOWN, LET), 6)
        ring = (("hand", 6), ("puller", 1), ("puller", 2))
        self.check(reach, (0,), ring, True)
        for value in ODD + ((), list(ring), [], tuple(map(list, ring)), (list(ring[0]),) + ring[1:],
                            (("hand", 6), ("puller", True), ("puller", 2)), (("hand", 6.0),) + ring[1:],
                            (("hand", 6, 6),) + ring[1:], (("hands", 6),) + ring[1:], ((b"hand", 6),) + ring[1:],
                            (("hand", Same()),) + ring[1:], (Same(),) + ring[1:], (Refuses(),) + ring[1:],
                            (("hand",),) + ring[1:], ((Same(), 6),) + ring[1:], (("hand", 99),) + ring[1:],
                            (ring[0],), ring[:2], (ring,), {event: True for event in ring}, Run(COME), reach):
            self.check(reach, (0,), value, False)
        one = Reach(book((LOOK, HOLD, LET), OUT, LET), 1)
        self.check(one, (), (("hand", 0), ("hand", 1)), False)

    def test_true_in_place_of_one(self):
        hands = (LOOK, HOLD, ENTER, TOUCH, LEAVE, LET)
        reach = Reach(book(hands, OUT, EMPTY, DOWN, LET), 3)
        ring = reach.ring((0,))
        self.assertIn(("puller", 1), ring)
        self.check(reach, (0,), ring, True)
        self.check(reach, (0,), tuple(("puller", True) if event == ("puller", 1) else event for event in ring), False)
        self.check(reach, (0,), tuple((who, bool(number)) if number < 2 else (who, number) for who, number in ring), False)


class Answers(unittest.TestCase):
    def test_never(self):
        reach = Reach(book(HANDS, OUT, MARK, WAIT, LET), 6)
        self.assertEqual((reach.lacks, reach.answer()), (True, ("never",)))
        self.assertIs(reach.is_answer(("never",)), True)
        for value in (("rings", [reach.ring(case) for case in reach.cases()]), ("run", Run()), ("rings", []), "never",
                      ["never"], ("never", None), ("never", ()), (), ("Never",), (b"never",)) + ODD:
            self.assertIs(reach.is_answer(value), False, value)

    def test_rings_of_a_reach_that_lacks(self):
        hands = (LOOK, TRY, ("ask", "gone", (TOUCH, LET)), LET)
        reach = Reach(book(hands, LET), 3)
        self.assertEqual((reach.lacks, reach.answer()), (True, ("never",)))

    def test_a_run(self):
        reach = Reach(book(HANDS, WAIT, MARK, DOWN, LET), 6)
        word, run = reach.answer()
        self.assertEqual((word, run.hands, run[len(run) - 1]), ("run", 1, go(6)))
        self.assertEqual(fault_at_end(book(HANDS, WAIT, MARK, DOWN, LET), run), "touched")
        moves = run.listed()
        for value in (run, [COME] + moves, [COME] * 7 + moves, [COME, go(0)] + moves, (COME, COME, go(0)) + tuple(moves)):
            self.assertIs(reach.is_answer(("run", Run.of(value))), True)
        for value in ([COME] * 8 + moves, moves[:-1], moves + [STEP], moves[1:], [], moves[::-1], moves[:-1] + [STEP],
                      [STEP] + moves, moves + moves[-1:]):
            self.assertIs(reach.is_answer(("run", Run.of(value))), False, value)
        for value in (["run", run], ("run", moves), ("run", tuple(moves)), ("run", run, None), ("run",), run, ("rings", run),
                      ("rings", []), ("never",), ("rings", [reach.ring((0,)), ()]), ("run", None), ("Run", run)) + ODD:
            self.assertIs(reach.is_answer(value), False, value)

    def test_a_run_to_another_place(self):
        hands = (LOOK, TRY, TOUCH, TOUCH, LET)
        told = book(hands, DOWN, LET)
        first, second = Reach(told, 2), Reach(told, 3)
        for reach, other in ((first, second), (second, first)):
            self.assertIs(reach.is_answer(reach.answer()), True)
            self.assertIs(reach.is_answer(other.answer()), False)
        # A run with a work's touch, or the puller's fault, at its end is none either.
        early = book((LOOK, TRY, TOUCH, LET), DOWN, LET, MARK)
        self.assertIs(Reach(early, 2).is_answer(("run", Run(STEP, STEP, STEP))), False)

    def test_a_run_that_is_used(self):
        told = book((LOOK, HOLD, TOUCH, LET), DOWN, LET)
        run = Reach(told, 1).answer()[1]
        self.assertEqual(fault_at_end(told, run), "used")
        self.assertIs(Reach(told, 1).is_answer(("run", run)), True)
        self.assertIs(Reach(told, 2).is_answer(("run", run)), False)

    def test_rings(self):
        reach = Reach(book(HANDS, *TWO_WAITS), 6)
        word, rings = reach.answer()
        self.assertEqual(word, "rings")
        self.assertIsInstance(rings, list)
        self.assertEqual(len(rings), 4)
        for case, ring in zip(reach.cases(), rings):
            self.assertIs(reach.is_ring(case, ring), True)
        turned = [ring[1:] + ring[:1] for ring in rings]
        for value in (rings, turned, [ring + ring for ring in rings], turned[:2] + rings[2:]):
            self.assertIs(reach.is_answer(("rings", value)), True)
        for value in (tuple(rings), rings[:-1], rings + rings[-1:], rings[1:], [rings[3]] + rings[1:], [],
                      [list(ring) for ring in rings], [()] + rings[1:], rings[:3] + [None], {0: rings}, rings[0], None):
            self.assertIs(reach.is_answer(("rings", value)), False, value)
        for value in (["rings", rings], ("rings", rings, None), ("rings",), rings, ("never",), ("run", rings),
                      ("run", Run()), ("ring", rings), (Same(), rings)) + ODD:
            self.assertIs(reach.is_answer(value), False, value)

    def test_rings_in_another_order(self):
        reach = Reach(book(HANDS, *SOUND), 6)
        rings = reach.answer()[1]
        self.assertNotEqual(rings[0], rings[1])
        self.assertIs(reach.is_answer(("rings", rings[::-1])), False)

    def test_against_a_search(self):
        """Each answer held against all runs with one and with two hands."""
        seen = {"never": 0, "run": 0, "rings": 0}
        for parts, told in drawn(220):
            if len(model.explore(parts, 1)[0]) > 150:
                continue
            faulty = reaches.faulty_places(parts, 1)
            self.assertEqual(faulty & set(askable(told)), reaches.faulty_places(parts, 2) & set(askable(told)))
            for place in askable(told):
                reach = Reach(told, place)
                answer = reach.answer()
                seen[answer[0]] += 1
                self.assertIs(reach.is_answer(answer), True)
                self.assertEqual(answer[0] == "run", place in faulty, (parts, place))
                self.assertEqual(answer[0] == "never", reach.lacks)
                if answer[0] == "run":
                    run = answer[1]
                    self.assertEqual((run.hands, run[len(run) - 1]), (1, go(place)))
                    self.assertEqual(fault_at_end(told, run), "touched" if told.hands.item(place) == TOUCH else "used")
            self.assertEqual(unsafe_places(told), sorted(faulty & set(askable(told))))
        self.assertGreater(min(seen.values()), 20)

    def test_equal_calls(self):
        for puller in (SOUND, TWO_WAITS, EARLY_TWICE):
            first, second = Reach(book(HANDS, *puller), 6), Reach(book(HANDS, *puller), 6)
            self.assertEqual(first.answer(), second.answer())
            self.assertEqual(first.answer(), first.answer())


class UnsafePlaces(unittest.TestCase):
    def test_named(self):
        hands = (LOOK, HOLD, TOUCH, ENTER, ("ask", "gone", (LEAVE, TOUCH, LET)), TOUCH, LEAVE, LET)
        for puller, places in (((OUT, MARK, WAIT, DOWN, EMPTY, LET), [1, 2, 6]), ((OUT, MARK, WAIT, LET), [1]),
                               ((OUT, EMPTY, MARK, WAIT, DOWN, LET), [1, 2, 6]), ((DOWN,), [2, 8]), ((MARK, DOWN), [2, 6, 8]),
                               ((), []), ((LET,), [1]), ((LET, WAIT), [])):
            self.assertEqual(unsafe_places(book(hands, *puller)), places, puller)

    def test_empty_behind_out(self):
        hands = LOCKED + (TOUCH, LET)
        self.assertEqual(unsafe_places(book(hands, LOCK, OUT, UNLOCK, EMPTY, DOWN, LET)), [])
        self.assertEqual(unsafe_places(book(hands, LOCK, OUT, UNLOCK, DOWN, EMPTY, LET)), [4])
        self.assertEqual(unsafe_places(book(hands, EMPTY, LOCK, OUT, UNLOCK, DOWN, LET)), [4])
        self.assertEqual(unsafe_places(book(hands, LOCK, EMPTY, OUT, UNLOCK, DOWN, LET)), [])
        self.assertEqual(unsafe_places(book(hands, OUT, LET)), [2])
        self.assertEqual(unsafe_places(book(hands, LOCK, OUT, UNLOCK, LET)), [])

    def test_right_books_have_none(self):
        for parts, told in drawn(100):
            if len(model.explore(parts, 1)[0]) <= 150 and not faults(told):
                self.assertEqual(unsafe_places(told), [])


if __name__ == "__main__":
    unittest.main()
