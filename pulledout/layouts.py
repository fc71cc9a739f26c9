"""Where the items of a row stand ([4]), what one has who stands there, and what may not stand there ([5])."""

from pulledout.errors import InvalidItem, InvalidStep
from pulledout.items import is_ask_head, is_item, is_step, is_way_item

_MOST_ITEMS = 14
_MOST_STEPS = 9

_OPENINGS = (("look", "hold"), ("look", "try"),
             ("lock", "look", "hold", "unlock"), ("lock", "look", "try", "unlock"),
             ("lock", "look", "unlock", "hold"), ("lock", "look", "unlock", "try"))
_LONGEST_OPENING = 4

# A standing tells whether one holds, is under way and has the lock; this is what the items make of it.
_CHANGES = {"hold": (0, True), "try": (0, True), "let": (0, False),
            "enter": (1, True), "leave": (1, False),
            "lock": (2, True), "unlock": (2, False)}
_AT_FIRST = (False, False, False)

_ONCE = ("out", "down", "let", "mark")


class Layout:
    """A row of items by its places: the items, where they lead, and the standing of one who is there."""

    def __init__(self, parts):
        self.placed = tuple(_spread(parts))
        self.end = len(self.placed)
        self.leads = tuple(_leads(parts, self.end))
        self.standings = tuple(_standings(self.placed, self.leads))


def check_items(parts):
    """Raise InvalidItem if one of any values is no item, or if there are none or too many."""
    number = 0
    for part in parts:
        if is_ask_head(part):
            _check_way_out(part[2], number + 1)
            number = number + len(part[2])
        elif not is_item(part):
            raise InvalidItem(number)
        number = number + 1
    if not 1 <= number <= _MOST_ITEMS:
        raise InvalidItem(None)


def opening_of(parts):
    """How many items the opening of a hand's row has; InvalidItem if the row has none."""
    words = tuple([part[0] for part in parts[:_LONGEST_OPENING]])
    for many in range(1, len(words) + 1):
        if words[:many] in _OPENINGS:
            return many
        if not any([words[:many] == opening[:many] for opening in _OPENINGS]):
            raise InvalidItem(many - 1)
    raise InvalidItem(None)


def check_places(layout, opening, barred):
    """Raise InvalidItem with the least number of an item that may not stand there; none is barred in the opening."""
    for place, item in enumerate(layout.placed):
        if place >= opening and item[0] in barred:
            raise InvalidItem(place)
        if not _may_stand(layout, place) or _ends_badly(layout, place):
            raise InvalidItem(place)


def check_steps(parts):
    """Raise InvalidStep if one of any values is no step, or may not stand there, or if there are too many."""
    for index, part in enumerate(parts):
        if not is_step(part):
            raise InvalidStep(index)
    if len(parts) > _MOST_STEPS:
        raise InvalidStep(None)
    locked = locked_behind(parts)
    for index, part in enumerate(parts):
        if part[0] in _ONCE and part in parts[:index]:
            raise InvalidStep(index)
        if part[0] in ("lock", "unlock") and locked[index] == (part[0] == "lock"):
            raise InvalidStep(index)


def locked_behind(steps):
    """For none, one .. all of the steps done, whether the puller has the lock then."""
    told = [False]
    for step in steps:
        told.append(step[0] == "lock" or (told[-1] and step[0] != "unlock"))
    return told


def _check_way_out(way_out, number):
    for at, item in enumerate(way_out):
        if not is_way_item(item):
            raise InvalidItem(number + at)


def _way_out_of(part):
    return part[2] if part[0] == "ask" else ()


def _spread(parts):
    placed = []
    for part in parts:
        placed = [*placed, part, *_way_out_of(part)]
    return placed


def _leads(parts, end):
    leads = []
    for part in parts:
        first_of_way_out = len(leads) + 1
        behind = first_of_way_out + len(_way_out_of(part))
        # The last item of a way out leads to the end, so does an ask with an empty one.
        way_out = list(range(first_of_way_out, behind)) + [end]
        leads.append((behind, way_out[0]) if part[0] == "ask" else (behind,))
        leads.extend([(place,) for place in way_out[1:]])
    return leads


def _standings(placed, leads):
    standings = [_AT_FIRST for _ in range(len(placed) + 1)]
    # Each item leads on to greater places, and but for the end no place is led to by two items.
    for place, item in enumerate(placed):
        for behind in leads[place]:
            standings[behind] = _standing_behind(standings[place], item[0])
    return standings[:-1]


def _standing_behind(standing, word):
    if word not in _CHANGES:
        return standing
    at, told = _CHANGES[word]
    return (*standing[:at], told, *standing[at + 1:])


def _may_stand(layout, place):
    word = layout.placed[place][0]
    _, under, locked = layout.standings[place]
    if word == "enter":
        return not under
    if word == "leave":
        return under
    if word == "lock":
        return not locked
    if word == "unlock":
        return locked
    # That one is neither under way nor has the lock at a let is asked of every last item.
    return word != "let" or layout.leads[place] == (layout.end,)


def _ends_badly(layout, place):
    if layout.end not in layout.leads[place]:
        return False
    _, under, locked = _standing_behind(layout.standings[place], layout.placed[place][0])
    return under or locked
