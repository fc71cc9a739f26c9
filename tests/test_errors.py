import unittest

from pulledout import errors
from pulledout.errors import PullError

# Each error: the names of what it stores, and what is directly above it.
ERRORS = {
    "InvalidItem": (("number",), PullError),
    "InvalidStep": (("index",), PullError),
    "InvalidBook": (("part", "name"), PullError),
    "InvalidState": (("value",), PullError),
    "InvalidMove": (("move",), PullError),
    "InvalidText": (("line",), PullError),
    "InvalidCommand": (("word",), PullError),
    "InvalidOption": (("value",), PullError),
    "NotRight": (("word", "run"), PullError),
    "Faulty": (("word", "move"), PullError),
    "InvalidNumber": (("value",), ValueError),
    "UnknownName": (("name",), LookupError),
    "LimitExceeded": (("limit",), OverflowError),
    "NothingToUndo": (("name",), RuntimeError),
}
BUILTINS = (ValueError, LookupError, OverflowError, RuntimeError)


class Odd:
    def __eq__(self, other):
        raise RuntimeError("compared")

    def __repr__(self):
        raise RuntimeError("written")

    __str__ = __repr__


def any_values():
    return [None, True, 0, -7, 10 ** 59, "", "gone", "a b\n", b"x", (), ("go", 0), [1, [2]], {"a": [1]},
            {1, 2}, 1.5, object(), Odd(), ValueError("x"), len]


class Errors(unittest.TestCase):
    def test_all_are_tested(self):
        found = [name for name, value in vars(errors).items() if isinstance(value, type)]
        self.assertEqual(sorted(found), sorted(list(ERRORS) + ["PullError"]))

    def test_base(self):
        self.assertTrue(issubclass(PullError, ValueError))
        self.assertFalse(issubclass(PullError, tuple(getattr(errors, name) for name in ERRORS)))
        for name, (_, base) in ERRORS.items():
            self.assertEqual(getattr(errors, name).__bases__, (base,), name)

    def test_not_under_other_builtin_errors(self):
        for name, (_, base) in ERRORS.items():
            for builtin in BUILTINS:
                expected = issubclass(base, builtin)
                self.assertIs(issubclass(getattr(errors, name), builtin), expected, (name, builtin))

    def test_under_pull_error_or_not(self):
        for name, (_, base) in ERRORS.items():
            self.assertIs(issubclass(getattr(errors, name), PullError), base is PullError, name)

    def test_none_is_under_another(self):
        for name in ERRORS:
            for other in ERRORS:
                if name != other:
                    self.assertFalse(issubclass(getattr(errors, name), getattr(errors, other)), (name, other))

    def test_stores_by_position(self):
        for name, (fields, _) in ERRORS.items():
            for value in any_values():
                passed = [value] + [object() for _ in fields[1:]]
                self.check_stored(getattr(errors, name)(*passed), fields, passed)
                passed.reverse()
                self.check_stored(getattr(errors, name)(*passed), fields, passed)

    def test_stores_by_name(self):
        for name, (fields, _) in ERRORS.items():
            for value in any_values():
                passed = [value] + [object() for _ in fields[1:]]
                for order in (1, -1):
                    pairs = list(zip(fields, passed))[::order]
                    self.check_stored(getattr(errors, name)(**dict(pairs)), fields, passed)

    def test_stores_by_both(self):
        for name, (fields, _) in ERRORS.items():
            if len(fields) == 2:
                passed = [object(), object()]
                error = getattr(errors, name)(passed[0], **{fields[1]: passed[1]})
                self.check_stored(error, fields, passed)

    def check_stored(self, error, fields, passed):
        for field, value in zip(fields, passed):
            self.assertIs(getattr(error, field), value, (error.__class__.__name__, field))

    def test_stored_lists_are_the_very_ones(self):
        run = [("come",)]
        error = errors.NotRight("kept", run)
        run.append(("step",))
        self.assertIs(error.run, run)

    def test_arguments_are_needed(self):
        for name, (fields, _) in ERRORS.items():
            wrong = [(), fields[1:], fields + ("more",)]
            for passed in wrong:
                with self.assertRaises(TypeError):
                    getattr(errors, name)(*passed)

    def test_raised_and_caught(self):
        for name, (fields, base) in ERRORS.items():
            with self.assertRaises(base) as caught:
                raise getattr(errors, name)(*fields)
            self.check_stored(caught.exception, fields, fields)
        with self.assertRaises(PullError):
            raise PullError("told")


if __name__ == "__main__":
    unittest.main()
