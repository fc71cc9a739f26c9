import unittest

import model
import samples
from odd import ODD, not_within

from pulledout.errors import InvalidNumber, InvalidState, LimitExceeded
from pulledout.faults import is_shown
from pulledout.moves import fault_of, first_state, is_kept, is_state, is_stuck
from pulledout.runs import Run, is_run, play
from pulledout.tables import Table

WORDS = ("touched", "used", "stuck", "kept")
SOUND = samples.made(samples.NAMED["sound"][0])
BUSY = samples.made(samples.NAMED["two works"][0])


class Searched(unittest.TestCase):
    """Tables against a search of the model."""

    @classmethod
    def setUpClass(cls):
        cls.books = samples.samples(60, largest=150)

    def test_states_and_lengths(self):
        for parts, book in self.books:
            for hands in (0, 1, 2):
                lengths, _ = model.explore(parts, hands)
                table = Table(book, hands=hands, limit=100000)
                self.assertEqual(len(table), len(lengths))
                self.assertEqual(sorted(table.states(), key=repr), sorted(lengths, key=repr))
                told = [table[state] for state in table.states()]
                self.assertEqual(told, [lengths[state] for state in table.states()])
                self.assertEqual(told, sorted(told))

    def test_three_hands(self):
        for parts, book in self.books[:14]:
            lengths, words = model.explore(parts, 3)
            table = Table(book, hands=3, limit=100000)
            self.assertEqual({state: table[state] for state in table.states()}, lengths)
            self.assertEqual({word: len(run) for word, run in table.faults().items()}, words)

    def test_runs_of_just_that_length(self):
        for _, book in self.books[:30]:
            for hands in (0, 1, 2):
                table = Table(book, hands=hands, limit=100000)
                for state in table.states()[::7]:
                    run = table.run_to(state)
                    self.assertIsInstance(run, Run)
                    self.assertEqual((len(run), play(book, run)), (table[state], state))
                    self.assertLessEqual(run.hands, hands)

    def test_links(self):
        for parts, book in self.books[:30]:
            for hands in (0, 1, 2):
                table = Table(book, hands=hands, limit=100000)
                for state in table.states()[::5]:
                    expected = [(move, model.after(parts, state, move)) for move in model.moves(parts, state, hands)
                                if model.fault_of(parts, state, move) is None]
                    self.assertEqual(table.links(state), expected)
                    for _, behind in table.links(state):
                        self.assertIs(behind in table, True)
                        self.assertLessEqual(table[behind], table[state] + 1)

    def test_faults(self):
        seen = {}
        for parts, book in self.books:
            for hands in (0, 1, 2):
                _, words = model.explore(parts, hands)
                told = Table(book, hands=hands, limit=100000).faults()
                self.assertIsInstance(told, dict)
                self.assertEqual(list(told), [word for word in WORDS if word in words])
                for word, run in told.items():
                    seen[word] = seen.get(word, 0) + 1
                    self.assertIsInstance(run, Run)
                    self.assertEqual(len(run), words[word], (parts, word))
                    self.assertLessEqual(run.hands, hands)
                    self.assertIs(is_shown(book, word, run), True)
        self.assertGreater(min(seen.values()), 10)

    def test_no_state_beyond_a_fault(self):
        for _, book in self.books[:20]:
            table = Table(book, hands=1, limit=100000)
            for state in table.states():
                self.assertIs(is_run(book, table.run_to(state)), True)

    def test_runs_go_on_behind_stuck_and_kept(self):
        book = samples.made(samples.NAMED["does nothing"][0])
        table = Table(book, hands=1)
        self.assertEqual([is_kept(book, state) for state in table.states()], [True, False, False, False, True])
        stuck = samples.made(samples.NAMED["keeps the lock"][0])
        self.assertTrue(any(is_stuck(stuck, state) and Table(stuck).links(state) for state in Table(stuck).states()))


class Named(unittest.TestCase):
    def test_words(self):
        for name, (parts, words) in samples.NAMED.items():
            self.assertEqual(tuple(Table(samples.made(parts)).faults()), words, name)

    def test_first_state(self):
        for book in (SOUND, BUSY):
            table = Table(book)
            self.assertEqual((table.states()[0], table[first_state(book)]), (first_state(book), 0))
            self.assertEqual(table.run_to(first_state(book)), Run())

    def test_a_run_of_no_moves(self):
        book = samples.made(samples.NAMED["does nothing"][0])
        for hands in (0, 1, 2):
            self.assertEqual(Table(book, hands=hands).faults(), {"kept": Run()})

    def test_hands_that_are_needed(self):
        book = samples.made(samples.NAMED["bare hold"][0])
        self.assertEqual(Table(book, hands=0).faults(), {})
        run = Table(book, hands=1).faults()["used"]
        self.assertEqual((len(run), run.hands, run[len(run) - 1]), (5, 1, ("go", 1)))

    def test_two_hands_if_nothing_is_told(self):
        self.assertEqual(Table(SOUND).states(), Table(SOUND, hands=2).states())
        self.assertEqual(max(state[0] for state in Table(SOUND).states()), 2)

    def test_no_hands(self):
        table = Table(book=SOUND, hands=0, limit=6)
        self.assertEqual(table.states(), [(0, (), (), done, False) for done in range(6)])
        self.assertEqual(table.links((0, (), (), 0, False)), [(("step",), (0, (), (), 1, False))])
        self.assertEqual(table.links(state=(0, (), (), 5, False)), [])
        self.assertEqual(table.run_to(state=(0, (), (), 2, False)), Run(("step",), ("step",)))


class Limits(unittest.TestCase):
    def test_just_as_many_and_one_fewer(self):
        for parts, _ in list(samples.NAMED.values()):
            book = samples.made(parts)
            for hands in (0, 1, 2):
                many = len(model.explore(parts, hands)[0])
                self.assertEqual(len(Table(book, hands=hands, limit=many)), many)
                self.assertEqual(len(Table(book, hands=hands, limit=many + 1)), many)
                for limit in (many - 1, many // 2, 1):
                    if 1 <= limit < many:
                        with self.assertRaises(LimitExceeded) as caught:
                            Table(book, hands=hands, limit=limit)
                        self.assertEqual(caught.exception.limit, limit)

    def test_6000_if_nothing_is_told(self):
        use = samples.USE
        just = (use, ("start", "job")) + (use,) * 7 + (samples.LET,)
        parts = ((samples.LOOK, samples.TRY) + just, {"job": (use,), "tick": (use,)}, (samples.WAIT, ("idle", "tick")))
        self.assertEqual(len(Table(samples.made(parts), hands=3)), 6000)
        over = (use,) * 4 + (samples.ENTER, use, use, ("start", "job"), use, use, samples.LEAVE)
        parts = ((samples.LOOK, samples.TRY) + over, {"job": (use,), "tick": (use,) * 6},
                 (("bar", "job"), samples.WAIT, samples.WAIT, ("idle", "tick")))
        self.assertEqual(len(Table(samples.made(parts), hands=3, limit=6001)), 6001)
        with self.assertRaises(LimitExceeded) as caught:
            Table(samples.made(parts), hands=3)
        self.assertEqual(caught.exception.limit, 6000)

    def test_no_limits(self):
        self.assertEqual(len(Table(SOUND, limit=100000)), len(Table(SOUND)))
        for value in not_within(1, 100000):
            with self.assertRaises(InvalidNumber) as caught:
                Table(SOUND, limit=value)
            self.assertIs(caught.exception.value, value)

    def test_no_numbers_of_hands(self):
        small = samples.made(samples.NAMED["does nothing"][0])
        for hands in range(9):
            self.assertEqual(max(state[0] for state in Table(small, hands=hands).states()), hands)
        for value in not_within(0, 8):
            for limit in (6000, 1, 0, True, None):
                with self.assertRaises(InvalidNumber) as caught:
                    Table(SOUND, hands=value, limit=limit)
                self.assertIs(caught.exception.value, value)

    def test_by_name_only(self):
        with self.assertRaises(TypeError):
            Table(SOUND, 1)


class Members(unittest.TestCase):
    def check(self, table, value, expected):
        self.assertIs(value in table, expected)
        if not expected:
            for function in (table.__getitem__, table.run_to, table.links):
                with self.assertRaises(InvalidState) as caught:
                    function(value)
                self.assertIs(caught.exception.value, value)

    def test_states(self):
        for book in (SOUND, BUSY):
            table = Table(book, hands=1)
            for state in table.states():
                self.check(table, state, True)

    def test_values_that_are_no_states(self):
        for value in ODD + ((0, (), (), 0), [0, (), (), 0, False], (0, (), (), 0, 0), (False, (), (), 0, False),
                            (0, [], (), 0, False), (0, (), [], 0, False), (0, (), (), False, False),
                            (True, (0,), (), 0, False), (1, (False,), (), 0, False), (1, [0], (), 0, False),
                            (1, (True,), (), 0, False), (1, (0,), (), True, False), (1, (0,), (), 0, 0),
                            (1.0, (0,), (), 0, False), (9, (), (), 0, False)):
            self.check(Table(SOUND, hands=1), value, False)

    def test_bent_works(self):
        table = Table(BUSY, hands=1)
        idle = (False, None)
        self.check(table, (0, (), (idle, idle), 0, False), True)
        for works in ((idle, (0, None)), (list(idle), idle), [idle, idle], (idle,), (), (idle, (False, False)),
                      (idle, (None, None))):
            self.check(table, (0, (), works, 0, False), False)

    def test_states_that_are_not_in_it(self):
        table = Table(SOUND, hands=1)
        for value in ((2, (), (), 0, False), (1, (6,), (), 4, False), (1, (), (), 0, True), (1, (4,), (), 0, False)):
            self.assertIs(is_state(SOUND, value), True)
            self.check(table, value, False)
        self.check(table, (0, (), ((False, None),), 0, False), False)

    def test_length_by_length(self):
        table = Table(SOUND, hands=1)
        self.assertEqual([table[state] for state in table.states()][:4], [0, 1, 1, 2])
        self.assertEqual(table[(1, (6,), (), 2, False)], 7)


class New(unittest.TestCase):
    def test_lists_and_dicts(self):
        for book in (SOUND, BUSY):
            table = Table(book, hands=1)
            states, faults, links = table.states(), table.faults(), table.links(first_state(book))
            many = len(table)
            table.states().clear()
            table.faults().clear()
            table.faults()["kept"] = None
            table.links(first_state(book)).clear()
            self.assertEqual((table.states(), table.faults(), table.links(first_state(book)), len(table)),
                             (states, faults, links, many))

    def test_equal_calls(self):
        for parts, _ in samples.NAMED.values():
            one, two = Table(samples.made(parts)), Table(samples.made(parts))
            self.assertEqual((one.states(), one.faults()), (two.states(), two.faults()))
            self.assertEqual([one.run_to(state) for state in one.states()], [two.run_to(state) for state in two.states()])

    def test_not_iterated_over(self):
        with self.assertRaises(TypeError):
            list(Table(SOUND))

    def test_tables_are_themselves_alone(self):
        self.assertFalse(Table(SOUND) == Table(SOUND).states())

    def test_faults_stand_ahead_of_states(self):
        table = Table(samples.made(samples.NAMED["waits too early"][0]))
        run = table.faults()["touched"]
        state = play(samples.made(samples.NAMED["waits too early"][0]), Run.of(run.listed()[:-1]))
        self.assertEqual(table[state], len(run) - 1)
        self.assertEqual(fault_of(samples.made(samples.NAMED["waits too early"][0]), state, run[len(run) - 1]), "touched")


if __name__ == "__main__":
    unittest.main()
