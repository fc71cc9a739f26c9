import unittest

from pulledout.items import is_item, is_step, is_use

BARE_ITEMS = ("look", "hold", "try", "let", "enter", "leave", "touch", "use", "lock", "unlock")
BARE_STEPS = ("out", "wait", "empty", "down", "let", "lock", "unlock")
NAMED_STEPS = ("mark", "bar", "forget", "idle")
IN_WAYS_OUT = (("let",), ("enter",), ("leave",), ("touch",), ("use",), ("lock",), ("unlock",), ("start", "job"))
NOT_IN_WAYS_OUT = (("look",), ("hold",), ("try",), ("ask", "gone", ()))

ITEMS = tuple((word,) for word in BARE_ITEMS) + (("start", "job"), ("ask", "gone", (("let",),)))
STEPS = tuple((word,) for word in BARE_STEPS) + tuple((word, "gone") for word in NAMED_STEPS)
WORDS = sorted(set(BARE_ITEMS + BARE_STEPS + NAMED_STEPS + ("start", "ask")))

NO_NAMES = ("", "abcdefghi", "Gone", "gone1", "go ne", "gone\n", None, True, 1, b"gone", ("gone",), ["gone"])


class Same:
    """Calls itself equal to everything."""

    __hash__ = None

    def __eq__(self, other):
        return True


class Refuses:
    """Cannot be compared at all."""

    def __eq__(self, other):
        raise RuntimeError("compared")


OTHER_KINDS = (None, True, False, 0, 1, 3, 1.5, "", "look", "ask", "out", b"look", [], ["look"], {}, {"look": 1}, {"look"},
               (), ((),), (None,), (True,), (1,), (b"look",), (["look"],), (("look",),), ({},), ("",), ("walk",),
               ("Look",), ("look ",), (" look",), ("OUT",), ("look", None), (None, None, None), object(), Same(),
               Refuses(), (Same(),), (Refuses(),), (Same(), "gone"), (Refuses(), "gone"), (Same(), "gone", ()),
               (Refuses(), "gone", ()), ("ask", "gone", Same()), ("ask", Refuses(), ()), ("start", Same()),
               ("mark", Refuses()), is_item)


def with_other_numbers_of_parts(value):
    """The tuple with one part too few, and with one too many of several kinds."""
    return [value[:-1]] + [value + (more,) for more in ("gone", "", None, (), value)]


class Items(unittest.TestCase):
    def check(self, value, expected):
        self.assertIs(is_item(value), expected, repr(value))

    def test_every_word(self):
        for item in ITEMS:
            self.check(item, True)

    def test_words_of_steps_alone(self):
        for step in STEPS:
            self.check(step, step in ITEMS)

    def test_one_part_too_many_or_too_few(self):
        for item in ITEMS:
            for value in with_other_numbers_of_parts(item):
                self.check(value, False)

    def test_every_word_with_every_number_of_parts(self):
        for word in WORDS:
            self.check((word,), word in BARE_ITEMS)
            self.check((word, "gone"), word == "start")
            self.check((word, "gone", ()), word == "ask")
            self.check((word, "gone", (), ()), False)

    def test_names(self):
        for name in ("a", "gone", "abcdefgh", "look"):
            self.check(("start", name), True)
            self.check(("ask", name, ()), True)
            self.check(("ask", name, (("start", name),)), True)
        for name in NO_NAMES:
            self.check(("start", name), False)
            self.check(("ask", name, ()), False)
            self.check(("ask", name, (("let",),)), False)
            self.check(("ask", "gone", (("start", name),)), False)

    def test_numbers_of_items_in_ways_out(self):
        for item in IN_WAYS_OUT:
            for many in range(5):
                self.check(("ask", "gone", (item,) * many), True)
            for many in (5, 6, 20):
                self.check(("ask", "gone", (item,) * many), False)

    def test_four_and_five_unlike_items(self):
        for first in range(len(IN_WAYS_OUT)):
            turned = IN_WAYS_OUT[first:] + IN_WAYS_OUT[:first]
            self.check(("ask", "gone", turned[:4]), True)
            self.check(("ask", "gone", turned[:5]), False)

    def test_what_stands_in_no_way_out(self):
        for wrong in NOT_IN_WAYS_OUT + (("out",), ("mark", "gone"), ("let", "gone"), ("start",), "let", None, ()):
            self.check(("ask", "gone", (wrong,)), False)
            for at in range(4):
                way_out = [("let",), ("use",), ("leave",)]
                way_out.insert(at, wrong)
                self.check(("ask", "gone", tuple(way_out)), False)

    def test_lists_for_tuples(self):
        for item in ITEMS:
            self.check(list(item), False)
            self.check([item], False)
        for item in IN_WAYS_OUT:
            self.check(("ask", "gone", [item]), False)
            self.check(("ask", "gone", (list(item),)), False)
            self.check(("ask", "gone", (item, list(item))), False)
        self.check(("ask", "gone", []), False)

    def test_ways_out_of_other_kinds(self):
        for way_out in (None, True, 0, "", "let", ("let",), ("start", "job"), {}, {("let",)}, ("ask", "gone", ())):
            self.check(("ask", "gone", way_out), False)

    def test_deeply_nested(self):
        value = ()
        for _ in range(30):
            value = (("ask", "gone", value),)
        self.check(value[0], False)
        self.check(("ask", "gone", (("ask", "gone", (("let",),)),)), False)

    def test_other_kinds(self):
        for value in OTHER_KINDS:
            self.check(value, False)

    def test_by_name(self):
        self.assertIs(is_item(value=("look",)), True)


class Steps(unittest.TestCase):
    def check(self, value, expected):
        self.assertIs(is_step(value), expected, repr(value))

    def test_every_word(self):
        for step in STEPS:
            self.check(step, True)

    def test_words_of_items_alone(self):
        for item in ITEMS:
            self.check(item, item in STEPS)

    def test_one_part_too_many_or_too_few(self):
        for step in STEPS:
            for value in with_other_numbers_of_parts(step):
                self.check(value, False)

    def test_every_word_with_every_number_of_parts(self):
        for word in WORDS:
            self.check((word,), word in BARE_STEPS)
            self.check((word, "gone"), word in NAMED_STEPS)
            self.check((word, "gone", ()), False)

    def test_names(self):
        for word in NAMED_STEPS:
            for name in ("a", "gone", "abcdefgh", "out"):
                self.check((word, name), True)
            for name in NO_NAMES:
                self.check((word, name), False)

    def test_lists_for_tuples(self):
        for step in STEPS:
            self.check(list(step), False)
            self.check([step], False)
            self.check((step,), False)

    def test_other_kinds(self):
        for value in OTHER_KINDS:
            self.check(value, False)

    def test_by_name(self):
        self.assertIs(is_step(value=("out",)), True)


class Uses(unittest.TestCase):
    def check(self, value, expected):
        self.assertIs(is_use(value), expected, repr(value))

    def test_items_that_use_the_record(self):
        for item in (("hold",), ("enter",), ("leave",), ("use",), ("start", "job"), ("ask", "gone", ())):
            self.check(item, True)

    def test_asks_whatever_their_way_out(self):
        for item in IN_WAYS_OUT:
            self.check(("ask", "gone", (item,)), True)

    def test_steps_that_use_the_record(self):
        for step in (("wait",), ("empty",), ("let",)) + tuple((word, "gone") for word in NAMED_STEPS):
            self.check(step, True)

    def test_what_does_not_use_the_record(self):
        for word in ("look", "try", "touch", "lock", "unlock", "out", "down"):
            self.check((word,), False)

    def test_words_with_wrong_parts(self):
        for value in ITEMS + STEPS:
            self.check(list(value), False)
            for wrong in with_other_numbers_of_parts(value):
                self.check(wrong, False)
        for word in WORDS:
            self.check((word, "gone"), word == "start" or word in NAMED_STEPS)
            self.check((word, "gone", ()), word == "ask")

    def test_asks_that_are_no_items(self):
        for wrong in NOT_IN_WAYS_OUT:
            self.check(("ask", "gone", (wrong,)), False)
        self.check(("ask", "gone", []), False)
        self.check(("ask", "gone", (("use",),) * 5), False)
        self.check(("ask", "Gone", ()), False)

    def test_other_kinds(self):
        for value in OTHER_KINDS:
            self.check(value, False)

    def test_by_name(self):
        self.assertIs(is_use(value=("hold",)), True)


class Example(unittest.TestCase):
    def test_of_the_interface(self):
        told = (is_item(("ask", "gone", (("let",),))), is_item(("ask", "gone", (("try",),))),
                is_step(("let",)), is_use(("touch",)))
        self.assertEqual(told, (True, False, True, False))


if __name__ == "__main__":
    unittest.main()
