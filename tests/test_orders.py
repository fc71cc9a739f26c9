import inspect
import itertools
import unittest

import picking
from making import Maker
from odd import ODD, Refuses, Same, not_within
from samples import DOWN, EMPTY, HANDS, HOLD, LET, LOCK, LOCKED, LOOK, MARK, OUT, SOUND, TOUCH, TRY, UNLOCK, WAIT

from pulledout.books import Book
from pulledout.errors import InvalidNumber, InvalidStep, LimitExceeded
from pulledout.faults import is_right
from pulledout.orders import alternatives, is_alternatives, kept_pairs, orders_of, right_orders, right_words
from pulledout.plain import Plain
from pulledout.rows import PullRow

BARE = (LOOK, TRY, LET)
LATE = Book(HANDS, puller=(MARK, WAIT, DOWN, LET))
# Right in two ways that no one alternative tells.
TWO_WAYS = Book(HANDS, puller=(MARK, WAIT, EMPTY, DOWN, LET))
LOCK_TWO_WAYS = Plain("tried", "locked", "empty", "let", "lock", "unlock").as_book()
WRONG = Book((LOOK, HOLD, LET), puller=(OUT, LET))
FREE = Book(BARE, puller=(OUT, DOWN, LET))
WORKING = Book((LOOK, TRY, ("start", "job"), LET), {"job": (TOUCH,)},
               puller=(("bar", "job"), ("forget", "job"), ("idle", "job"), DOWN, LET))
LOCKING = Book(LOCKED + (LET,), puller=(LOCK, OUT, UNLOCK, EMPTY, LET))
KNOWN = (LATE, TWO_WAYS, LOCK_TWO_WAYS, WRONG, FREE, WORKING, LOCKING, Book(BARE, puller=()), Book(BARE, puller=(LET,)),
         Book(BARE, puller=(OUT,)), Book(HANDS, puller=SOUND), LATE.changed(puller=(LET, DOWN, WAIT, MARK)))
FUNCTIONS = (right_orders, kept_pairs, alternatives, lambda book, **more: is_alternatives(book, [], **more),
             lambda book, **more: is_alternatives(book, None, **more))


def drawn(many, longest=4):
    """Books whose puller has unlike steps, few of them."""
    told = []
    seed = 0
    while len(told) < many:
        seed += 1
        maker = Maker(seed)
        hands, works, puller = maker.book(seed % 2, many=4)
        if maker.may(60):
            hands = maker.one_of([HANDS, BARE, LOCKED + (LET,), LOCK_TWO_WAYS.hands.parts])
            works = {}
            puller = maker.one_of([(LET, MARK, DOWN, WAIT), (UNLOCK, LOCK, LET, OUT), (LET, EMPTY, DOWN), (OUT, LET, WAIT)])
            puller = maker.chance.sample(puller + (LET,), len(puller))
        puller = [step for at, step in enumerate(puller) if step not in puller[:at]]
        while len(puller) > longest:
            puller.pop(maker.chance.randrange(len(puller)))
        if picking.is_puller(puller):
            book = Book(hands, works, puller=tuple(puller))
            if picking.many_states(book) < 120:
                told.append(book)
    return told


class Examples(unittest.TestCase):
    def test_of_the_interface(self):
        self.assertEqual(right_orders(LATE), [(0, 1, 2, 3), (0, 1, 3, 2)])
        self.assertEqual(kept_pairs(LATE), [(0, 1), (0, 2), (0, 3), (1, 2), (1, 3)])
        self.assertEqual(right_words(Plain("tried", "in", "let", "down", "wait", "mark")),
                         [("mark", "wait", "let", "down"), ("mark", "wait", "down", "let")])

    def test_by_name(self):
        self.assertEqual(list(orders_of(row=PullRow(OUT, LET))), [(0, 1), (1, 0)])
        for function in (right_orders, kept_pairs, alternatives):
            self.assertEqual(function(book=LATE, limit=100), function(LATE))
            with self.assertRaises(TypeError):
                function(LATE, 100)
        self.assertIs(is_alternatives(book=LATE, value=alternatives(LATE), limit=100), True)
        self.assertEqual(right_words(plain=Plain.sound()), right_words(Plain.sound()))
        for function in FUNCTIONS[:3] + (is_alternatives,):
            self.assertEqual(inspect.signature(function).parameters["limit"].default, 6000)


class Orders(unittest.TestCase):
    def test_rows_of_none_to_five_steps(self):
        for many in range(6):
            row = PullRow(*(OUT, MARK, WAIT, DOWN, LET)[:many])
            told = list(orders_of(row))
            self.assertEqual(told, list(itertools.permutations(range(many))))
        self.assertEqual(list(orders_of(PullRow())), [()])
        self.assertEqual(list(orders_of(PullRow(LET))), [(0,)])

    def test_locks(self):
        self.assertEqual(list(orders_of(PullRow(LOCK, UNLOCK))), [(0, 1)])
        self.assertEqual(list(orders_of(PullRow(LOCK, OUT, UNLOCK))), [(0, 1, 2), (0, 2, 1), (1, 0, 2)])
        self.assertEqual(list(orders_of(PullRow(OUT, LOCK))), [(0, 1), (1, 0)])
        for steps in ((LOCK, OUT, UNLOCK, EMPTY, LET), (OUT, LOCK, MARK, UNLOCK), (LOCK, OUT, DOWN, LET)):
            told = list(orders_of(PullRow(*steps)))
            self.assertEqual(told, picking.orders_of(steps))
            for order in told:
                PullRow(*[steps[index] for index in order])

    def test_marks_are_unlike(self):
        self.assertEqual(len(list(orders_of(PullRow(MARK, ("mark", "dead"), ("bar", "job"), ("idle", "job"))))), 24)

    def test_too_many(self):
        for steps in ((OUT, MARK, WAIT, DOWN, LET, EMPTY), (WAIT,) * 6, (WAIT,) * 9):
            going = orders_of(PullRow(*steps))
            with self.assertRaises(LimitExceeded) as caught:
                next(going)
            self.assertEqual(caught.exception.limit, 5)

    def test_steps_alike(self):
        for steps, index in (((WAIT, WAIT), 1), ((OUT, WAIT, EMPTY, EMPTY, WAIT), 3), ((EMPTY, WAIT, OUT, WAIT, EMPTY), 3),
                             ((LOCK, UNLOCK, LOCK), 2), ((("bar", "job"), OUT, ("bar", "job")), 2)):
            going = orders_of(PullRow(*steps))
            with self.assertRaises(InvalidStep) as caught:
                next(going)
            self.assertEqual(caught.exception.index, index)
        self.assertEqual(len(list(orders_of(PullRow(("bar", "job"), ("bar", "tick"))))), 2)

    def test_a_generator(self):
        self.assertTrue(inspect.isgenerator(orders_of(PullRow(OUT, LET))))
        going = orders_of(PullRow(OUT, LET))
        self.assertEqual((next(going), list(going)), ((0, 1), [(1, 0)]))


class RightOrders(unittest.TestCase):
    def test_each_order(self):
        seen = {True: 0, False: 0}
        for book in KNOWN + tuple(drawn(60)):
            steps = book.puller.parts
            told = right_orders(book)
            self.assertIsInstance(told, list)
            self.assertEqual(told, sorted(told))
            for order in picking.orders_of(steps):
                changed = book.changed(puller=tuple(steps[index] for index in order))
                self.assertIs(order in told, is_right(changed), order)
                seen[order in told] += 1
            self.assertEqual(told, picking.right_orders(book))
        self.assertGreater(min(seen.values()), 60)

    def test_named(self):
        self.assertEqual(right_orders(WRONG), [])
        self.assertEqual(right_orders(FREE), list(itertools.permutations(range(3))))
        self.assertEqual(right_orders(Book(BARE, puller=())), [])
        self.assertEqual(right_orders(Book(BARE, puller=(LET,))), [(0,)])
        # The one mark is behind no wait, or no empty.
        self.assertEqual(right_orders(TWO_WAYS),
                         [(0, 1, 2, 3, 4), (0, 1, 2, 4, 3), (0, 1, 3, 2, 4), (0, 2, 1, 3, 4), (0, 2, 1, 4, 3),
                          (0, 2, 3, 1, 4), (1, 0, 2, 3, 4), (1, 0, 2, 4, 3), (2, 0, 1, 3, 4), (2, 0, 1, 4, 3)])

    def test_kept_pairs(self):
        for book in KNOWN + tuple(drawn(60)):
            right = picking.right_orders(book)
            told = kept_pairs(book)
            if not right:
                self.assertIsNone(told)
                continue
            self.assertIsInstance(told, list)
            self.assertEqual(told, [pair for pair in picking.pairs_of(len(book.puller))
                                    if picking.keeping(right, [pair]) == right])

    def test_no_pair_that_all_keep(self):
        self.assertEqual(kept_pairs(FREE), [])
        self.assertEqual(kept_pairs(Book(BARE, puller=(LET,))), [])
        self.assertIsNone(kept_pairs(Book(BARE, puller=())))
        self.assertIsNone(kept_pairs(WRONG))


class Alternatives(unittest.TestCase):
    def test_told(self):
        several = 0
        for book in KNOWN + tuple(drawn(60)):
            orders = picking.orders_of(book.puller.parts)
            right = picking.right_orders(book)
            told = alternatives(book)
            self.assertIsInstance(told, list)
            several += len(told) > 1
            for pairs in told:
                self.assertIsInstance(pairs, tuple)
                self.assertEqual(list(pairs), sorted(set(pairs)))
                self.assertTrue(picking.are_alternative(orders, right, pairs), pairs)
            # Those that keep one of them are just the right ones.
            kept = [order for order in orders if any(picking.keeping([order], pairs) for pairs in told)]
            self.assertEqual(kept, right)
            self.assertIs(is_alternatives(book, told), True)
        self.assertGreaterEqual(several, 2)

    def test_named(self):
        self.assertEqual(alternatives(LATE), [((0, 1), (1, 2), (1, 3))])
        self.assertEqual(alternatives(FREE), [()])
        self.assertEqual(alternatives(WRONG), [])
        self.assertEqual(alternatives(LOCKING), [((0, 4), (1, 2), (3, 4))])
        # Either the mark is ahead of the wait, or ahead of the empty.
        self.assertEqual(sorted(alternatives(TWO_WAYS)), [((0, 1), (1, 3), (1, 4), (2, 4)), ((0, 2), (1, 4), (2, 3), (2, 4))])
        self.assertEqual(sorted(alternatives(LOCK_TWO_WAYS)), [((0, 1), (0, 2)), ((0, 1), (3, 0))])
        self.assertEqual(alternatives(LATE), alternatives(LATE.changed()))

    def test_all_alternatives_of_few_steps(self):
        """Of all sets of pairs just the alternatives are taken."""
        seen = 0
        for book in drawn(25, longest=3) + [LATE.changed(puller=(DOWN, MARK, LET)), FREE, WRONG]:
            orders = picking.orders_of(book.puller.parts)
            right = picking.right_orders(book)
            many = len(book.puller)
            known = picking.all_alternatives(orders, right, many)
            pairs = picking.pairs_of(many)
            for size in range(len(pairs) + 1):
                for chosen in itertools.combinations(pairs, size):
                    told = known + [chosen]
                    self.assertIs(is_alternatives(book, told), chosen in known, (book.puller.parts, chosen))
                    seen += chosen in known
        self.assertGreater(seen, 10)

    def test_one_left_out(self):
        seen = set()
        for book in KNOWN + tuple(drawn(30)):
            right = picking.right_orders(book)
            told = alternatives(book)
            for at in range(len(told)):
                left = told[:at] + told[at + 1:]
                enough = all(any(picking.keeping([order], pairs) for pairs in left) for order in right)
                self.assertIs(is_alternatives(book, left), enough)
                seen.add(enough)
        self.assertIn(False, seen)

    def test_others_that_are_right(self):
        told = alternatives(TWO_WAYS)
        for value in (told[::-1], told + told, told + told[:1], told[1:] + told[:1]):
            self.assertIs(is_alternatives(TWO_WAYS, value), True)
        three = drawn(25, longest=3)
        for book in three:
            orders = picking.orders_of(book.puller.parts)
            self.assertIs(is_alternatives(book, picking.all_alternatives(orders, picking.right_orders(book),
                                                                         len(book.puller))), True)

    def test_bent(self):
        told = alternatives(LATE)
        self.assertEqual(told, [((0, 1), (1, 2), (1, 3))])
        pairs = told[0]
        for value in ([pairs[1:]], [pairs[:-1]], [pairs[:1] + pairs[2:]], [pairs + ((2, 3),)], [((0, 1), (0, 2)) + pairs[1:]],
                      [pairs[::-1]], [pairs + pairs[-1:]], [pairs[:1] + pairs], [tuple((b, a) for a, b in pairs)], [()], [],
                      [pairs, ()], [pairs, pairs[1:]], [pairs, None], [pairs, ((0, 1), (1, 0))], [((0, 0),) + pairs],
                      [((0, 1), (1, 2), (1, 4))], [((-1, 1), (1, 2), (1, 3))], [pairs, ((0, 1), (1, 2), (2, 0))]):
            self.assertIs(is_alternatives(LATE, value), False, value)
        self.assertIs(is_alternatives(LATE, [pairs]), True)

    def test_kinds(self):
        pairs = alternatives(LATE)[0]
        for value in ODD + ((pairs,), pairs, [list(pairs)], [tuple(map(list, pairs))], {0: pairs}, {pairs: 0}, {pairs},
                            [((0, True),) + pairs[1:]], [((False, 1),) + pairs[1:]], [((0, 1.0),) + pairs[1:]],
                            [((0, 1, 2),) + pairs[1:]], [((0,),) + pairs[1:]], [("01",) + pairs[1:]], [(Same(),) + pairs[1:]],
                            [((0, Same()),) + pairs[1:]], [(Refuses(),) + pairs[1:]], [((0, Refuses()),) + pairs[1:]],
                            [Same()], [Refuses()], [None]):
            if isinstance(value, list) and len(value) == 0:
                continue
            self.assertIs(is_alternatives(LATE, value), False, value)

    def test_where_no_order_is_right(self):
        self.assertIs(is_alternatives(WRONG, []), True)
        for value in ([()], [((0, 1),)], (), None, [((0, 1), (1, 0))]):
            self.assertIs(is_alternatives(WRONG, value), False)

    def test_where_each_order_is_right(self):
        self.assertIs(is_alternatives(FREE, [()]), True)
        self.assertIs(is_alternatives(FREE, [(), ()]), True)
        for value in ([], [((0, 1),)], [(), ((0, 1),)], [((0, 1),), ((1, 0),)]):
            self.assertIs(is_alternatives(FREE, value), False)

    def test_locks_are_kept_anyway(self):
        told = alternatives(LOCKING)
        self.assertIs(is_alternatives(LOCKING, told), True)
        for pairs in told:
            self.assertNotIn((0, 2), pairs)
            self.assertIs(is_alternatives(LOCKING, [tuple(sorted(pairs + ((0, 2),)))]), False)

    def test_new_lists(self):
        for function in (right_orders, kept_pairs, alternatives):
            told = function(LATE)
            function(LATE).clear()
            self.assertEqual(function(LATE), told)


class Limits(unittest.TestCase):
    def test_no_limits(self):
        crowded = LATE.changed(puller=(WAIT,) * 6)
        for book in (LATE, crowded, LATE.changed(puller=(WAIT, WAIT))):
            for function in FUNCTIONS:
                for value in not_within(1, 100000):
                    with self.assertRaises(InvalidNumber) as caught:
                        function(book, limit=value)
                    self.assertIs(caught.exception.value, value)

    def test_too_many_steps(self):
        for steps in ((WAIT,) * 6, (OUT, MARK, WAIT, EMPTY, DOWN, LET)):
            for function in FUNCTIONS:
                for limit in (1, 6000):
                    with self.assertRaises(LimitExceeded) as caught:
                        function(LATE.changed(puller=steps), limit=limit)
                    self.assertEqual(caught.exception.limit, 5)

    def test_steps_alike(self):
        for function in FUNCTIONS:
            for limit in (1, 6000):
                with self.assertRaises(InvalidStep) as caught:
                    function(LATE.changed(puller=(OUT, WAIT, WAIT, LET)), limit=limit)
                self.assertEqual(caught.exception.index, 2)

    def test_just_as_many_states_and_one_fewer(self):
        for book in KNOWN + tuple(drawn(15)):
            steps = book.puller.parts
            many = max(picking.many_states(book.changed(puller=tuple(steps[index] for index in order)))
                       for order in picking.orders_of(steps))
            for function in FUNCTIONS:
                self.assertEqual(function(book, limit=many), function(book))
                if many > 1:
                    with self.assertRaises(LimitExceeded) as caught:
                        function(book, limit=many - 1)
                    self.assertEqual(caught.exception.limit, many - 1)

    def test_an_order_that_is_not_the_row_needs_more(self):
        many = {picking.many_states(LATE.changed(puller=tuple(LATE.puller[index] for index in order)))
                for order in picking.orders_of(LATE.puller.parts)}
        self.assertGreater(max(many), picking.many_states(LATE))


class RightWords(unittest.TestCase):
    def check(self, plain):
        known = []
        for order in itertools.permutations(range(len(plain))):
            words = tuple(plain.pulls[index] for index in order)
            if "unlock" in words and "lock" not in words[:words.index("unlock")]:
                continue
            if plain.pulled(*words).faults() == []:
                known.append(words)
        told = right_words(plain)
        self.assertIsInstance(told, list)
        self.assertEqual(told, known)
        return told

    def test_named(self):
        self.assertEqual(right_words(Plain("tried", "in")), [])
        self.assertEqual(right_words(Plain("tried", "in", "let")), [("let",)])
        self.assertEqual(right_words(Plain("tried", "in", "let", "out")), [("let", "out"), ("out", "let")])
        self.assertEqual(right_words(Plain("bare", "in", "let")), [])
        self.assertEqual(right_words(Plain("locked", "none", "lock", "out", "unlock", "let")),
                         [("lock", "out", "unlock", "let"), ("lock", "out", "let", "unlock"), ("lock", "let", "out", "unlock"),
                          ("out", "lock", "unlock", "let"), ("out", "lock", "let", "unlock")])

    def test_against_all_orders(self):
        some = 0
        for pulls in (("mark", "wait", "down", "let"), ("let", "down", "empty", "mark", "out"), ("lock", "unlock", "let", "out"),
                      ("down", "wait", "out", "lock", "let", "unlock"), ("lock", "out", "let"), ("empty", "let", "down")):
            for opens in ("bare", "tried", "locked"):
                for asks in ("in", "ahead", "none", "locked"):
                    some += len(self.check(Plain(opens, asks, *pulls))) > 0
        self.assertGreater(some, 10)

    def test_against_the_books(self):
        for opens, asks in (("tried", "in"), ("locked", "none"), ("tried", "locked")):
            for pulls in (("let", "down", "wait", "mark"), ("down", "empty", "let", "out"), ("lock", "down", "unlock", "let", "mark")):
                plain = Plain(opens, asks, *pulls)
                told = [tuple(pulls[index] for index in order) for order in right_orders(plain.as_book())]
                self.assertEqual(right_words(plain), told)

    def test_six_and_seven(self):
        six = Plain("tried", "in", "out", "mark", "wait", "empty", "down", "let")
        self.assertIn(six.pulls, self.check(six))
        for pulls in (("out", "mark", "wait", "empty", "down", "let", "lock"),
                      ("out", "mark", "wait", "empty", "down", "let", "lock", "unlock")):
            with self.assertRaises(LimitExceeded) as caught:
                right_words(six.pulled(*pulls))
            self.assertEqual(caught.exception.limit, 6)

    def test_new_lists(self):
        told = right_words(Plain.sound())
        right_words(Plain.sound()).clear()
        self.assertEqual(right_words(Plain.sound()), told)


if __name__ == "__main__":
    unittest.main()
