"""Items of hands ([4]), steps of the puller ([6]), and which of them use the record ([10])."""

from pulledout.names import is_name

_OPENERS = ("look", "hold", "try")
_BARE_ITEMS = ("let", "enter", "leave", "touch", "use", "lock", "unlock")
_NAMED_ITEMS = ("start",)
_ASKS = ("ask",)
_MOST_IN_WAY_OUT = 4

_BARE_STEPS = ("out", "wait", "empty", "down", "let", "lock", "unlock")
_NAMED_STEPS = ("mark", "bar", "forget", "idle")

_USING_ITEMS = ("hold", "enter", "leave", "ask", "use", "start")
# A hand that comes to its let holds the record, so only the puller's let is among these.
_USING_STEPS = ("mark", "wait", "empty", "bar", "forget", "idle", "let")


def is_item(value):
    """Whether any value is an item of a hand."""
    return _is_bare(value, _OPENERS) or is_way_item(value) or _is_ask(value)


def is_step(value):
    """Whether any value is a step of the puller."""
    return _is_bare(value, _BARE_STEPS) or _is_named(value, _NAMED_STEPS)


def is_use(value):
    """Whether any value is an item or a step that is a fault if the record is freed."""
    if is_item(value) and value[0] in _USING_ITEMS:
        return True
    return is_step(value) and value[0] in _USING_STEPS


def is_way_item(value):
    """Whether any value is an item that may stand in a way out."""
    return _is_bare(value, _BARE_ITEMS) or _is_named(value, _NAMED_ITEMS)


def is_ask_head(value):
    """Whether any value is an ask but for what stands in its way out, which may be anything."""
    if not isinstance(value, tuple) or len(value) != 3:
        return False
    word, mark, way_out = value
    if not _is_word(word, _ASKS) or not is_name(mark):
        return False
    return isinstance(way_out, tuple) and len(way_out) <= _MOST_IN_WAY_OUT


def _is_ask(value):
    return is_ask_head(value) and all([is_way_item(item) for item in value[2]])


def _is_bare(value, words):
    return isinstance(value, tuple) and len(value) == 1 and _is_word(value[0], words)


def _is_named(value, words):
    if not isinstance(value, tuple) or len(value) != 2:
        return False
    return _is_word(value[0], words) and is_name(value[1])


def _is_word(value, words):
    # Any value may stand here: only texts are compared, others might refuse to be.
    return isinstance(value, str) and value in words
