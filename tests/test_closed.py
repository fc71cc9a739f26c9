import unittest

import model
import samples
from making import Maker
from odd import ODD, Refuses, Same

from pulledout.closed import closed_list, is_closed
from pulledout.faults import is_right
from pulledout.moves import after, fault_of, first_state, moves
from pulledout.tables import Table

RIGHT = [name for name, (_, words) in samples.NAMED.items() if not words]
WRONG = [name for name, (_, words) in samples.NAMED.items() if words]


def named(name):
    return samples.made(samples.NAMED[name][0])


def holds_good(parts, states):
    """Whether a list of states is closed, as the document tells it."""
    if model.first_state(parts) not in states or any(state[0] > 1 for state in states):
        return False
    for state in states:
        if model.is_stuck(parts, state) or model.is_kept(parts, state):
            return False
        for move in model.moves(parts, state, 1):
            if model.fault_of(parts, state, move) or model.after(parts, state, move) not in states:
                return False
    return True


class Telling(unittest.TestCase):
    def test_right_books(self):
        for name in RIGHT:
            book = named(name)
            told = closed_list(book)
            self.assertIsInstance(told, list)
            self.assertEqual(len(told), len(set(told)))
            self.assertEqual(set(told), set(Table(book, hands=1).states()))
            self.assertIs(is_closed(book, told), True)

    def test_other_books(self):
        for name in WRONG:
            self.assertIsNone(closed_list(named(name)), name)

    def test_by_name(self):
        book = named("sound")
        self.assertEqual(closed_list(book=book, limit=100), closed_list(book))
        self.assertIs(is_closed(book=book, value=closed_list(book)), True)

    def test_new_lists(self):
        book = named("sound")
        told = closed_list(book)
        closed_list(book).clear()
        self.assertEqual(closed_list(book), told)

    def test_made_by_chance(self):
        right = 0
        for parts, book in samples.samples(150, largest=150):
            told = closed_list(book)
            self.assertIs(told is None, not is_right(book))
            states = Table(book, hands=1).states()
            self.assertIs(is_closed(book, states), told is not None)
            self.assertIs(holds_good(parts, set(states)), told is not None)
            right += told is not None
        self.assertGreater(right, 5)


class Checking(unittest.TestCase):
    def test_turned_about(self):
        for name in RIGHT:
            book = named(name)
            told = closed_list(book)
            for bent in (told[::-1], told[1:] + told[:1], told[5:] + told[:5], sorted(told, key=repr), tuple(told),
                         told + told, told + told[:1], [told[3]] + told, tuple(told[::-1])):
                self.assertIs(is_closed(book, bent), True)

    def test_a_state_left_out(self):
        for name in RIGHT:
            book = named(name)
            told = closed_list(book)
            for at in range(len(told)):
                self.assertIs(is_closed(book, told[:at] + told[at + 1:]), False, told[at])
            self.assertIs(is_closed(book, told[:1]), False)

    def test_none_at_all(self):
        for book in (named("sound"), named("does nothing")):
            self.assertIs(is_closed(book, []), False)
            self.assertIs(is_closed(book, ()), False)

    def test_without_the_first_state(self):
        book = named("sound")
        last = [(1, (), (), 5, False)]
        self.assertEqual(moves(book, last[0], hands=1), [])
        self.assertIs(is_closed(book, last), False)
        self.assertIs(is_closed(book, last + closed_list(book)), True)

    def test_a_state_put_in(self):
        book = named("sound")
        told = closed_list(book)
        for state, expected in (((1, (8,), (), 5, False), True), ((1, (3,), (), 5, False), True),
                                ((1, (6,), (), 4, False), False), ((1, (6,), (), 3, False), False),
                                ((1, (), (), 0, True), False), ((1, (), (), 5, True), False),
                                ((1, (7,), (), 3, False), False), ((1, (7,), (), 5, False), True),
                                ((2, (), (), 5, False), False), ((2, (0,), (), 5, False), False)):
            for at in (0, 7, len(told)):
                self.assertIs(is_closed(book, told[:at] + [state] + told[at:]), expected, state)

    def test_states_beyond_the_table(self):
        # No run leads there, but the list is closed all the same.
        book = named("sound")
        more = [(1, (7,), (), done, False) for done in (3, 4, 5)]
        for state in more:
            self.assertNotIn(state, Table(book, hands=1))
        self.assertIs(is_closed(book, closed_list(book) + more), True)
        self.assertIs(is_closed(book, more[1:] + closed_list(book)), True)
        self.assertIs(is_closed(book, closed_list(book) + more[:2]), False)

    def test_bent_states(self):
        for name in RIGHT:
            book = named(name)
            told = closed_list(book)
            for at in (0, 1, 2, len(told) // 2, len(told) - 1):
                came, hands, works, done, leaked = told[at]
                bents = [list(told[at]), (came, list(hands), works, done, leaked), (came, hands, list(works), done, leaked),
                         (came, hands, works, done, int(leaked)), told[at][:4], told[at] + (None,), None, 0, Same(),
                         Refuses(), (came, hands, tuple(list(work) for work in works) + ([],), done, leaked)]
                if came < 2:
                    bents.append((bool(came), hands, works, done, leaked))
                if done < 2:
                    bents.append((came, hands, works, bool(done), leaked))
                if hands and hands[0] < 2:
                    bents.append((came, (bool(hands[0]),), works, done, leaked))
                if works:
                    bents.append((came, hands, ((int(works[0][0]), works[0][1]),) + works[1:], done, leaked))
                    bents.append((came, hands, (list(works[0]),) + works[1:], done, leaked))
                for bent in bents:
                    self.assertIs(is_closed(book, told[:at] + [bent] + told[at + 1:]), False)
                    self.assertIs(is_closed(book, told + [bent]), False)

    def test_other_kinds(self):
        book = named("sound")
        told = closed_list(book)
        for value in ODD + (dict.fromkeys(told), set(told), frozenset(told), iter(told), "states", 1, Table(book), book,
                            dict(enumerate(told)).values(), [told], (told,)):
            self.assertIs(is_closed(book, value), False)

    def test_all_of_the_states_of_other_books(self):
        for name in WRONG:
            book = named(name)
            for hands in (0, 1, 2):
                self.assertIs(is_closed(book, Table(book, hands=hands).states()), False, name)

    def test_of_two_hands(self):
        for name in RIGHT:
            book = named(name)
            self.assertIs(is_closed(book, Table(book, hands=2).states()), False)
            self.assertIs(is_closed(book, Table(book, hands=0).states()), False)

    def test_of_another_book(self):
        told = closed_list(named("sound"))
        self.assertIs(is_closed(named("waits too early"), told), False)
        self.assertIs(is_closed(named("a work"), told), False)

    def test_stuck_and_kept_alone(self):
        # All moves lead to states that are in it, and none is a fault.
        for name in ("does nothing", "leaks", "keeps the lock"):
            book = named(name)
            states = Table(book, hands=1).states()
            for state in states:
                for move in moves(book, state, hands=1):
                    self.assertIsNone(fault_of(book, state, move))
                    self.assertIn(after(book, state, move), states)
            self.assertIs(is_closed(book, states), False)

    def test_one_of_stuck_and_kept_alone(self):
        stuck = samples.made(((samples.LOOK, samples.HOLD, samples.LOCK, samples.UNLOCK, samples.LET), {},
                              (samples.OUT, samples.EMPTY, samples.LOCK)))
        self.assertIs(is_closed(stuck, Table(stuck, hands=1).states()), False)
        end = samples.made(samples.NAMED["does nothing"][0])
        self.assertIs(is_closed(end, [first_state(end)]), False)

    def test_bent_by_chance(self):
        told = {True: 0, False: 0}
        for name in RIGHT:
            parts, book = samples.NAMED[name][0], named(name)
            maker = Maker(3)
            listed = closed_list(book)
            for _ in range(120):
                bent = list(listed)
                for _ in range(maker.chance.randrange(3)):
                    del bent[maker.chance.randrange(len(bent))]
                for _ in range(maker.chance.randrange(3)):
                    state = maker.state(parts) if maker.may(30) else maker.one_of(listed)
                    bent.insert(maker.chance.randrange(len(bent) + 1), state)
                expected = holds_good(parts, bent)
                told[expected] += 1
                self.assertIs(is_closed(book, bent), expected)
        self.assertGreater(min(told.values()), 20)


if __name__ == "__main__":
    unittest.main()
