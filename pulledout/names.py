"""Names and integers, as point [2] of the document has them."""

_LONGEST_NAME = 8


def is_name(value):
    """Whether any value is a name: a text of one to eight lowercase letters."""
    if not isinstance(value, str) or not 1 <= len(value) <= _LONGEST_NAME:
        return False
    # Not islower: that lets in digits, blanks and letters beyond z.
    return all(["a" <= letter <= "z" for letter in value])


def is_integer(value, lowest, highest):
    """Whether any value is an integer from lowest to highest."""
    # To Python a bool is an int, to the document it is none.
    if not isinstance(value, int) or isinstance(value, bool):
        return False
    return lowest <= value <= highest
