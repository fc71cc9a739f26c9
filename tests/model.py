"""The document's points [4] to [11] once more, as plainly as they are told: what the package is held against.

A book is here a tuple (hands, works, puller) of a tuple of items, a dict of tuples of items and a tuple of steps.
"""

WAITING = ("wait", "empty", "idle")
USING_ITEMS = ("hold", "enter", "leave", "ask", "use", "start")
USING_STEPS = ("mark", "wait", "empty", "bar", "forget", "idle", "let")
OPENINGS = (("look", "hold"), ("look", "try"), ("lock", "look", "hold", "unlock"), ("lock", "look", "try", "unlock"),
            ("lock", "look", "unlock", "hold"), ("lock", "look", "unlock", "try"))


def way_out_of(item):
    return item[2] if item[0] == "ask" else ()


def numbered(row):
    """Of each item of a row, by number: the item, and the numbers of the items that are done ahead of it."""
    told = []
    ahead = []
    for item in row:
        number = len(told)
        told.append((item, list(ahead)))
        for at, other in enumerate(way_out_of(item)):
            told.append((other, ahead + [number] + list(range(number + 1, number + 1 + at))))
        ahead.append(number)
    return told


def end_of(row):
    return len(numbered(row))


def item_at(row, place):
    return numbered(row)[place][0]


def words_ahead(row, place):
    told = numbered(row)
    return [told[number][0][0] for number in told[place][1]]


def last_of(words, on, off):
    """Whether the last one of the words in on or off is in on."""
    told = [word in on for word in words if word in on + off]
    return bool(told) and told[-1]


def holds(row, place):
    return last_of(words_ahead(row, place), ("hold", "try"), ("let",))


def is_under(row, place):
    return last_of(words_ahead(row, place), ("enter",), ("leave",))


def is_locked(row, place):
    return last_of(words_ahead(row, place), ("lock",), ("unlock",))


def nexts(row, place):
    """The next places of the item there."""
    end = end_of(row)
    number = 0
    for item in row:
        way_out = way_out_of(item)
        behind = number + 1 + len(way_out)
        if place == number:
            return (behind, number + 1 if way_out else end) if item[0] == "ask" else (behind,)
        if place < behind:
            return (place + 1 if place + 1 < behind else end,)
        number = behind
    raise ValueError(place)


def paths(row):
    """The paths of a row, as lists of numbers."""
    told = []
    ahead = []
    number = 0
    for item in row:
        ahead.append(number)
        way_out = way_out_of(item)
        if item[0] == "ask":
            told.append(ahead + list(range(number + 1, number + 1 + len(way_out))))
        number += 1 + len(way_out)
    return told + [ahead]


def misplaced(row, opening):
    """The least number of an item of a row that may not stand there, or None; opening is that of a hand's row, or 0."""
    items = [item for item, _ in numbered(row)]
    wrong = set()
    for path in paths(row):
        under = locked = False
        for at, number in enumerate(path):
            word = items[number][0]
            last = at == len(path) - 1
            if word in ("look", "hold", "try") and number >= opening:
                wrong.add(number)
            if word == "let" and (not opening or not last or under or locked):
                wrong.add(number)
            if word in ("enter", "leave") and under != (word == "leave"):
                wrong.add(number)
            if word in ("lock", "unlock") and locked != (word == "unlock"):
                wrong.add(number)
            under = word == "enter" or under and word != "leave"
            locked = word == "lock" or locked and word != "unlock"
            if last and (under or locked):
                wrong.add(number)
    return min(wrong) if wrong else None


def opening_of(row):
    """How many items the opening has, and the number of the first item with which none goes on."""
    words = tuple(item[0] for item in row)
    for opening in OPENINGS:
        if words[:len(opening)] == opening:
            return len(opening), None
    for number in range(len(words)):
        if not any(words[:number + 1] == opening[:number + 1] for opening in OPENINGS):
            return None, number
    return None, None


def pull_locked(puller, done):
    return last_of([step[0] for step in puller[:done]], ("lock",), ("unlock",))


def standing(book, state):
    """The pairs (row, place) of all who stand somewhere."""
    hands, works, _ = book
    _, places, jobs, _, _ = state
    told = [(hands, place) for place in places]
    return told + [(works[name], place) for name, (_, place) in zip(sorted(works), jobs) if place is not None]


def locks(book, state):
    """How many have the lock."""
    return pull_locked(book[2], state[3]) + sum(is_locked(row, place) for row, place in standing(book, state))


def is_lock_free(book, state):
    return locks(book, state) == 0


def count(book, state):
    hands, _, puller = book
    _, places, _, done, leaked = state
    told = 0 if ("let",) in puller[:done] else 1
    return told + sum(1 for place in places if holds(hands, place)) + (1 if leaked else 0)


def is_freed(book, state):
    return count(book, state) == 0


def first_state(book):
    return (0, (), tuple((False, None) for _ in book[1]), 0, False)


def moves(book, state, most=8):
    hands, works, puller = book
    came, places, jobs, done, _ = state
    free = is_lock_free(book, state)
    told = [("come",)] if came < most else []
    for place in sorted(set(places)):
        if free or item_at(hands, place) != ("lock",):
            told.append(("go", place))
    for name, (pending, place) in zip(sorted(works), jobs):
        if pending and place is None:
            told.append(("begin", name))
    for name, (_, place) in zip(sorted(works), jobs):
        if place is not None and (free or item_at(works[name], place) != ("lock",)):
            told.append(("run", name))
    if done < len(puller) and may_step(book, state):
        told.append(("step",))
    return told


def may_step(book, state):
    hands, works, puller = book
    _, places, jobs, done, leaked = state
    step = puller[done]
    if step == ("wait",):
        return not any(is_under(row, place) for row, place in standing(book, state))
    if step == ("empty",):
        return not leaked and not any(holds(hands, place) for place in places)
    if step[0] == "idle":
        return jobs[sorted(works).index(step[1])][1] is None
    return step != ("lock",) or is_lock_free(book, state)


def fault_of(book, state, move):
    hands, works, puller = book
    _, _, jobs, done, _ = state
    if move[0] == "step":
        return "used" if is_freed(book, state) and puller[done][0] in USING_STEPS else None
    if move[0] == "go":
        item = item_at(hands, move[1])
    elif move[0] == "run":
        item = item_at(works[move[1]], jobs[sorted(works).index(move[1])][1])
    else:
        return None
    if item == ("touch",) and ("down",) in puller[:done]:
        return "touched"
    return "used" if is_freed(book, state) and item[0] in USING_ITEMS else None


def after(book, state, move):
    hands, works, puller = book
    came, places, jobs, done, leaked = state
    places = list(places)
    jobs = dict(zip(sorted(works), jobs))
    if move[0] == "come":
        came += 1
        places.append(0)
    elif move[0] == "go":
        places.remove(move[1])
        target, leaks = go_on(book, state, hands, move[1], jobs)
        leaked = leaked or leaks
        if target is not None:
            places.append(target)
    elif move[0] == "begin":
        jobs[move[1]] = (False, 0)
    elif move[0] == "run":
        target, _ = go_on(book, state, works[move[1]], jobs[move[1]][1], jobs)
        jobs[move[1]] = (jobs[move[1]][0], target)
    else:
        if puller[done][0] == "forget":
            jobs[puller[done][1]] = (False, jobs[puller[done][1]][1])
        done += 1
    return (came, tuple(sorted(places)), tuple(jobs[name] for name in sorted(jobs)), done, leaked)


def go_on(book, state, row, place, jobs):
    """The place behind the item, or None, and whether the hold of a hand stays; what is started is told to jobs."""
    puller = book[2]
    behind = puller[:state[3]]
    item = item_at(row, place)
    if item == ("look",) and ("out",) in behind:
        return None, False
    if item == ("try",) and is_freed(book, state):
        return None, False
    if item[0] == "start" and ("bar", item[1]) not in behind:
        jobs[item[1]] = (True, jobs[item[1]][1])
    target = nexts(row, place)[0]
    if item[0] == "ask" and ("mark", item[1]) in behind:
        target = nexts(row, place)[1]
    if target < end_of(row):
        return target, False
    return None, item != ("let",) and is_hand(row)


def is_hand(row):
    return any(item in row for item in (("hold",), ("try",)))


def is_stuck(book, state):
    hands, works, puller = book
    _, places, jobs, done, leaked = state
    has_lock = pull_locked(puller, done)
    locked_out = [(row, place) for row, place in standing(book, state) if item_at(row, place) == ("lock",)]
    if done == len(puller):
        return has_lock and bool(locked_out)
    step = puller[done]
    if step == ("empty",) and leaked:
        return True
    if not has_lock or step[0] not in WAITING:
        return False
    if step == ("wait",):
        return any(is_under(row, place) for row, place in locked_out)
    if step == ("empty",):
        return any(item_at(hands, place) == ("lock",) and holds(hands, place) for place in places)
    place = jobs[sorted(works).index(step[1])][1]
    return place is not None and item_at(works[step[1]], place) == ("lock",)


def is_kept(book, state):
    _, places, _, done, _ = state
    return done == len(book[2]) and not places and not is_freed(book, state)


def explore(book, most):
    """The lengths of the shortest runs to each state, and of those that show each word."""
    level = [first_state(book)]
    lengths = {level[0]: 0}
    words = {}
    while level:
        found = []
        for state in level:
            length = lengths[state]
            if is_stuck(book, state):
                words.setdefault("stuck", length)
            if is_kept(book, state):
                words.setdefault("kept", length)
            for move in moves(book, state, most):
                word = fault_of(book, state, move)
                if word is not None:
                    words.setdefault(word, length + 1)
                elif after(book, state, move) not in lengths:
                    lengths[after(book, state, move)] = length + 1
                    found.append(after(book, state, move))
        level = found
    return lengths, words


def is_out(book, state):
    _, places, jobs, done, _ = state
    return done == len(book[2]) and not places and all(job == (False, None) for job in jobs)


def out_length(book, state):
    """The length of a shortest way out of the state, or None."""
    level = [state]
    seen = {state}
    length = 0
    while level:
        if any(is_out(book, other) for other in level):
            return length
        found = []
        for other in level:
            for move in moves(book, other, 0):
                if fault_of(book, other, move) is None and after(book, other, move) not in seen:
                    seen.add(after(book, other, move))
                    found.append(after(book, other, move))
        level = found
        length += 1
    return None
