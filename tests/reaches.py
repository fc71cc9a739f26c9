"""The document's point [12] once more, as plainly as it is told, over books as tests/model.py has them."""

import model


def is_tidy(book):
    puller = book[2]
    behind = puller[puller.index(("let",)) + 1:] if ("let",) in puller else ()
    return not any(step[0] in model.USING_STEPS for step in behind)


def askable(book):
    hands = book[0]
    words = [model.item_at(hands, place)[0] for place in range(model.end_of(hands))]
    return [place for place, word in enumerate(words) if word == "touch" or word == "hold" and is_tidy(book)]


def path(book, place):
    return model.numbered(book[0])[place][1] + [place]


def events(book, place):
    return [("hand", number) for number in path(book, place)] + [("puller", index) for index in range(len(book[2]))]


def index_of(book, step):
    return book[2].index(step) if step in book[2] else None


def pairs(book, place):
    """The pairs that always hold, as a set, and whether something lacks."""
    hands, _, puller = book
    numbers = path(book, place)
    told = set()
    lacks = False
    for number, behind in zip(numbers, numbers[1:]):
        told.add((("hand", number), ("hand", behind)))
    for index in range(1, len(puller)):
        told.add((("puller", index - 1), ("puller", index)))
    for at, number in enumerate(numbers):
        item = model.item_at(hands, number)
        step = {"look": ("out",), "hold": ("let",), "try": ("let",), "touch": ("down",), "ask": ("mark",) + item[1:2]}
        if item[0] not in step:
            continue
        index = index_of(book, step[item[0]])
        late = number == place
        if item[0] == "ask":
            late = numbers[at + 1] != model.nexts(hands, number)[0]
        if index is None:
            lacks = lacks or late
        elif late:
            told.add((("puller", index), ("hand", number)))
        else:
            told.add((("hand", number), ("puller", index)))
    return told, lacks


def indexes(puller, word):
    return [index for index, step in enumerate(puller) if step == (word,)]


def choices(book, place):
    hands, _, puller = book
    words = {number: model.item_at(hands, number)[0] for number in path(book, place)}
    told = []
    for index in indexes(puller, "wait"):
        for number in [number for number in words if words[number] == "enter"]:
            leave = ([other for other in words if other > number and words[other] == "leave"] + [place])[0]
            told.append(((("hand", leave), ("puller", index)), (("puller", index), ("hand", number))))
    for index in indexes(puller, "empty") if words[place] == "touch" else []:
        taken, = [number for number in words if words[number] in ("hold", "try")]
        told.append(((("hand", place), ("puller", index)), (("puller", index), ("hand", taken))))
    for number in [number for number in words if words[number] == "lock"]:
        unlock = ([other for other in words if other > number and words[other] == "unlock"] + [place])[0]
        for index in indexes(puller, "lock"):
            behind = [other for other in indexes(puller, "unlock") if other > index]
            pair = (("hand", unlock), ("puller", index))
            told.append((pair, (("puller", behind[0]), ("hand", number))) if behind else (pair,))
    return told


def cases(book, place):
    told = [()]
    for choice in choices(book, place):
        told = [case + (index,) for case in told for index in range(len(choice))]
    return told


def pairs_of(book, place, case):
    return pairs(book, place)[0] | {choice[index] for choice, index in zip(choices(book, place), case)}


def is_ring(told, ring):
    """Whether a list of events goes around by these pairs."""
    return len(ring) > 0 and all(pair in told for pair in zip(ring, ring[1:] + ring[:1]))


def faulty_places(book, most):
    """The places of hands at which the last move of some run is a fault, with so many hands at most."""
    told = set()
    for state in model.explore(book, most)[0]:
        for move in model.moves(book, state, most):
            if move[0] == "go" and model.fault_of(book, state, move):
                told.add(move[1])
    return told
