"""A book set out for going from state to state ([8] to [10]); what comes in here has been looked at before."""

from pulledout.items import is_use

MOST_HANDS = 8
FAULT_WORDS = ("touched", "used", "stuck", "kept")

# More steps than any puller has: what is so from there on is never so.
NEVER = 99
AT_END = ""


class Track:
    """The row of the hands or of a work: by places, what the item there does."""

    def __init__(self, layout, puller, numbers):
        placed = layout.placed
        self.end = layout.end
        self.leads = layout.leads
        self.item_words = tuple([item[0] for item in placed])
        # No one comes to a let while the record is freed, so it does no harm that the puller's let is a use.
        self.uses = tuple([is_use(item) for item in placed])
        self.holding = tuple([standing[0] for standing in layout.standings])
        self.under = tuple([standing[1] for standing in layout.standings])
        self.locking = tuple([standing[2] for standing in layout.standings])
        self.turned_since = tuple([_named_since(puller, "ask", item, "mark") for item in placed])
        self.barred_since = tuple([_named_since(puller, "start", item, "bar") for item in placed])
        self.started = tuple([numbers[item[1]] if item[0] == "start" else None for item in placed])


class Engine:
    """The tracks of a book, and by numbers of done steps what is so then."""

    def __init__(self, hands, works, puller):
        self.work_names = tuple(sorted(works))
        self.numbers = {name: number for number, name in enumerate(self.work_names)}
        self.hand = Track(hands.layout, puller, self.numbers)
        self.jobs = tuple([Track(works[name].layout, puller, self.numbers) for name in self.work_names])
        self.many_steps = len(puller)
        self.step_words = (*[step[0] for step in puller.parts], AT_END)
        self.step_uses = tuple([is_use(step) for step in puller.parts])
        self.targets = tuple([self.numbers[step[1]] if step[0] in ("forget", "idle") else None
                              for step in puller.parts])
        self.pull_locks = tuple([puller.has_lock(done) for done in range(len(puller) + 1)])
        self.out_since = _since(puller, "out")
        self.down_since = _since(puller, "down")
        self.let_since = _since(puller, "let")
        self.at_first = (0, (), tuple([(False, None) for _ in self.work_names]), 0, False)


def count_at(engine, state):
    """The record's count, all hands that leaked counted as one."""
    _, hands, _, done, leaked = state
    holding = engine.hand.holding
    own = 1 if done < engine.let_since else 0
    return own + len([place for place in hands if holding[place]]) + (1 if leaked else 0)


def is_freed_at(engine, state):
    """Whether the record is freed."""
    return state[3] >= engine.let_since and count_at(engine, state) == 0


def locks_at(engine, state):
    """How many have the lock: in a state one at most."""
    _, hands, works, done, _ = state
    locking = engine.hand.locking
    by_hands = len([place for place in hands if locking[place]])
    by_works = len([place for track, (_, place) in zip(engine.jobs, works)
                    if place is not None and track.locking[place]])
    return by_hands + by_works + (1 if engine.pull_locks[done] else 0)


def possible_moves(engine, state, most):
    """The list of the possible moves, faults too, with at most so many hands in all."""
    came, hands, works, done, _ = state
    is_free = locks_at(engine, state) == 0
    told = []
    if came < most:
        told.append(("come",))
    for at, place in enumerate(hands):
        if (at == 0 or hands[at - 1] != place) and (is_free or engine.hand.item_words[place] != "lock"):
            told.append(("go", place))
    for name, (pending, place) in zip(engine.work_names, works):
        if pending and place is None:
            told.append(("begin", name))
    for name, track, (_, place) in zip(engine.work_names, engine.jobs, works):
        if place is not None and (is_free or track.item_words[place] != "lock"):
            told.append(("run", name))
    if done < engine.many_steps and _may_step(engine, state, is_free):
        told.append(("step",))
    return told


def _may_step(engine, state, is_free):
    _, hands, works, done, leaked = state
    word = engine.step_words[done]
    if word == "wait":
        return not any([engine.hand.under[place] for place in hands]) and not any(
            [place is not None and track.under[place] for track, (_, place) in zip(engine.jobs, works)])
    if word == "empty":
        return not leaked and not any([engine.hand.holding[place] for place in hands])
    if word == "idle":
        return works[engine.targets[done]][1] is None
    return word != "lock" or is_free


def fault_word(engine, state, move):
    """The word of the fault that a possible move is, or None."""
    _, _, works, done, _ = state
    kind = move[0]
    if kind == "go":
        return _item_fault(engine, state, engine.hand, move[1])
    if kind == "run":
        number = engine.numbers[move[1]]
        return _item_fault(engine, state, engine.jobs[number], works[number][1])
    if kind == "step" and engine.step_uses[done] and is_freed_at(engine, state):
        return "used"
    return None


def _item_fault(engine, state, track, place):
    if track.item_words[place] == "touch" and state[3] >= engine.down_since:
        return "touched"
    if track.uses[place] and is_freed_at(engine, state):
        return "used"
    return None


def state_behind(engine, state, move):
    """The state behind a possible move that is no fault."""
    came, hands, works, done, leaked = state
    kind = move[0]
    if kind == "come":
        return (came + 1, (0, *hands), works, done, leaked)
    if kind == "go":
        return _behind_hand(engine, state, move[1])
    if kind == "begin":
        return (came, hands, _with_work(works, engine.numbers[move[1]], (False, 0)), done, leaked)
    if kind == "run":
        return _behind_work(engine, state, engine.numbers[move[1]])
    if engine.step_words[done] == "forget":
        number = engine.targets[done]
        works = _with_work(works, number, (False, works[number][1]))
    return (came, hands, works, done + 1, leaked)


def _behind_hand(engine, state, place):
    came, hands, works, done, leaked = state
    track = engine.hand
    at = hands.index(place)
    others = (*hands[:at], *hands[at + 1:])
    if _is_turned_away(engine, state, track.item_words[place]):
        return (came, others, works, done, leaked)
    works = _with_started(works, track, place, done)
    behind = next_place(track, place, done)
    if behind < track.end:
        return (came, tuple(sorted([*others, behind])), works, done, leaked)
    return (came, others, works, done, leaked or track.item_words[place] != "let")


def _is_turned_away(engine, state, word):
    if word == "look":
        return state[3] >= engine.out_since
    return word == "try" and is_freed_at(engine, state)


def _behind_work(engine, state, number):
    came, hands, works, done, leaked = state
    track = engine.jobs[number]
    place = works[number][1]
    # A work may start itself: it is set further in what its item has made of the works.
    works = _with_started(works, track, place, done)
    behind = next_place(track, place, done)
    works = _with_work(works, number, (works[number][0], behind if behind < track.end else None))
    return (came, hands, works, done, leaked)


def next_place(track, place, done):
    """Where one comes from the place who is not turned away there."""
    leads = track.leads[place]
    return leads[1] if done >= track.turned_since[place] else leads[0]


def _with_started(works, track, place, done):
    number = track.started[place]
    if number is None or done >= track.barred_since[place]:
        return works
    return _with_work(works, number, (True, works[number][1]))


def _with_work(works, number, work):
    return (*works[:number], work, *works[number + 1:])


def steps_on(engine, state, most):
    """For each possible move the tuple of it, its fault or None, and the state behind it, or None for a fault."""
    told = []
    for move in possible_moves(engine, state, most):
        word = fault_word(engine, state, move)
        told.append((move, word, state_behind(engine, state, move) if word is None else None))
    return told


def moves_to(origins, state):
    """The list of the moves to a state, from a dict from each state to the one ahead of it and the move, or to None."""
    told = []
    origin = origins[state]
    while origin is not None:
        state, move = origin
        told.append(move)
        origin = origins[state]
    told.reverse()
    return told


def is_stuck_at(engine, state):
    """Whether the puller cannot go on any more, or holds up others at its end."""
    _, _, _, done, leaked = state
    word = engine.step_words[done]
    if word == "empty" and leaked:
        return True
    return engine.pull_locks[done] and _is_one_locked_out(engine, state, word)


def _is_one_locked_out(engine, state, word):
    """Whether one for whom the step waits, or at the end anyone, stands at a lock."""
    _, hands, works, done, _ = state
    hand = engine.hand
    places = [place for place in hands if hand.item_words[place] == "lock"]
    jobs = [number for number, (_, place) in enumerate(works)
            if place is not None and engine.jobs[number].item_words[place] == "lock"]
    if word == "wait":
        return any([hand.under[place] for place in places]) or any(
            [engine.jobs[number].under[works[number][1]] for number in jobs])
    if word == "empty":
        return any([hand.holding[place] for place in places])
    if word == "idle":
        return engine.targets[done] in jobs
    return word == AT_END and len(places) + len(jobs) > 0


def is_kept_at(engine, state):
    """Whether the puller is at its end and no hand is inside, but the record is not freed."""
    _, hands, _, done, _ = state
    return done == engine.many_steps and len(hands) == 0 and not is_freed_at(engine, state)


def _since(puller, *step):
    """The least number of done steps from which on this one is done."""
    index = puller.first(*step)
    return NEVER if index is None else index + 1


def _named_since(puller, item_word, item, step_word):
    return _since(puller, step_word, item[1]) if item[0] == item_word else NEVER
