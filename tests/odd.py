"""Values of all kinds, to be passed where any value may be."""


class Same:
    """Calls itself equal to everything."""

    __hash__ = None

    def __eq__(self, other):
        return True


class Refuses:
    """Cannot be compared at all."""

    __hash__ = None

    def __eq__(self, other):
        raise RuntimeError("compared")


# Nothing here is an integer, a name, an item, a step, a move, a state or an object of the package.
ODD = (None, True, False, 1.0, 0.5, "", "0", "Gone", "a b", b"gone", b"", [], [0], ["gone"], {}, {"gone": 0}, {0},
       frozenset(), (), (0,), (None,), ((),), ((0,),), (True,), ("gone", "gone"), slice(0, 1), object(), Same(),
       Refuses(), (Same(),), (Refuses(),), (Same(), 0), ("go", Same()), ("go", Refuses()), len, int, ValueError("0"))

# As texts, lists and dicts alone they may be something: nowhere are they an index or a number.
NO_INTEGERS = ODD + ("gone", "look", ("look",), ("come",))


def not_within(lowest, highest):
    """Values that are no integers from lowest to highest, those next to them ahead."""
    return (lowest - 1, highest + 1, -1 - highest, lowest - 10 ** 20, highest + 10 ** 20) + NO_INTEGERS
