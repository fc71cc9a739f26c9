"""The shortest way out of a state: without further hands and faults to where all is at its end.

With eight hands inside there may be too many states to look at all of them. So the search goes on from where the
least is left to do, as far as each hand and each work, looked at alone with the puller, tells: never too much.
"""

from heapq import heappop, heappush

from pulledout.engine import is_freed_at, moves_to, next_place, steps_on

# More moves than one alone ever needs to come to its end.
NO_WAY = 1000000


class Guide:
    """By numbers of done steps, the fewest moves that a hand at each place, and a work in each condition, needs."""

    def __init__(self, engine):
        self._engine = engine
        self._of_hands = _hand_table(engine)
        self._of_works = [_work_table(engine, number) for number in range(len(engine.jobs))]

    def least_left(self, state):
        """No more moves than a way out of the state has, and NO_WAY or more only if there is none."""
        _, hands, works, done, _ = state
        of_hands = sum([self._of_hands[done][place] for place in hands])
        of_works = sum([table[done][work] for table, work in zip(self._of_works, works)])
        return of_hands + of_works + _puller_left(self._engine, state)


class Search:
    """The states come to, how, and which of them are to be gone on from."""

    def __init__(self, engine, state):
        self._engine = engine
        self._guide = Guide(engine)
        self._lengths = {}
        self._origins = {}
        self._queue = []
        self._pushed = 0
        self._come_to(state, 0, None)

    def __len__(self):
        return len(self._lengths)

    def way(self):
        """The list of the moves of a shortest way out, or None if there is none."""
        while len(self._queue) > 0:
            _, _, _, length, state = heappop(self._queue)
            if _is_out(self._engine, state):
                return moves_to(self._origins, state)
            # If not, a shorter way to the state has been found since.
            if length == self._lengths[state]:
                self._go_on(state, length)
        return None

    def _go_on(self, state, length):
        for move, word, behind in steps_on(self._engine, state, 0):
            if word is None and length + 1 < self._lengths.get(behind, NO_WAY):
                self._come_to(behind, length + 1, (state, move))

    def _come_to(self, state, length, origin):
        left = self._guide.least_left(state)
        if left >= NO_WAY:
            return
        self._lengths[state] = length
        self._origins[state] = origin
        self._pushed = self._pushed + 1
        # Among equal hopes the one nearest to its end comes first; the number keeps states from being compared.
        heappush(self._queue, (length + left, left, self._pushed, length, state))


def _is_out(engine, state):
    _, hands, works, done, _ = state
    return done == engine.many_steps and len(hands) == 0 and all([work == (False, None) for work in works])


def _puller_left(engine, state):
    _, hands, _, done, leaked = state
    behind_let = max(done, engine.let_since)
    # Behind the let the record is freed where an empty is possible, so that one is a fault.
    if "empty" in engine.step_words[behind_let:]:
        return NO_WAY
    if leaked:
        return engine.many_steps - done + _cost_of_leak(engine, done)
    is_for_nobody = len(hands) == 0 or is_freed_at(engine, state)
    if is_for_nobody and any(list(engine.step_uses[behind_let:])):
        return NO_WAY
    return engine.many_steps - done


def _cost_of_leak(engine, done):
    return NO_WAY if "empty" in engine.step_words[done:] else 0


def _hand_table(engine):
    table = []
    beyond = None
    for done in reversed(range(engine.many_steps + 1)):
        costs = [NO_WAY for _ in range(engine.hand.end)]
        for place in reversed(range(engine.hand.end)):
            costs[place] = min(_hand_goes(engine, costs, place, done), _hand_waits(engine, beyond, place, done))
        table.append(costs)
        beyond = costs
    table.reverse()
    return table


def _hand_goes(engine, costs, place, done):
    track = engine.hand
    word = track.item_words[place]
    if _is_barred(engine, track, place, done):
        return NO_WAY
    # A try may fail from the puller's let on, if no other hand holds.
    if word == "look" and done >= engine.out_since or word == "try" and done >= engine.let_since:
        return 1
    behind = next_place(track, place, done)
    if behind < track.end:
        return 1 + costs[behind]
    return 1 if word == "let" else 1 + _cost_of_leak(engine, done)


def _hand_waits(engine, beyond, place, done):
    track = engine.hand
    if beyond is None or _holds_up(engine, track, place, done):
        return NO_WAY
    if engine.step_words[done] == "empty" and track.holding[place]:
        return NO_WAY
    return beyond[place]


def _work_table(engine, number):
    places = [None, *list(range(engine.jobs[number].end))]
    works = [(pending, place) for pending in (False, True) for place in places]
    table = []
    beyond = None
    for done in reversed(range(engine.many_steps + 1)):
        costs = {work: _work_waits(engine, beyond, number, work, done) for work in works}
        # A work may start itself and so come back: what is left is told once nothing gets less.
        previous = None
        while previous != costs:
            previous = costs
            costs = {work: min(previous[work], _work_goes(engine, previous, number, work, done)) for work in works}
        table.append(costs)
        beyond = costs
    table.reverse()
    return table


def _work_goes(engine, costs, number, work, done):
    pending, place = work
    track = engine.jobs[number]
    if place is None:
        return 1 + costs[(False, 0)] if pending else NO_WAY
    if _is_barred(engine, track, place, done):
        return NO_WAY
    starts = track.started[place] == number and done < track.barred_since[place]
    behind = next_place(track, place, done)
    return 1 + costs[(pending or starts, behind if behind < track.end else None)]


def _work_waits(engine, beyond, number, work, done):
    pending, place = work
    if beyond is None:
        return 0 if work == (False, None) else NO_WAY
    if place is not None and _holds_up(engine, engine.jobs[number], place, done):
        return NO_WAY
    is_target = engine.targets[done] == number
    if is_target and engine.step_words[done] == "idle" and place is not None:
        return NO_WAY
    return beyond[(pending and not (is_target and engine.step_words[done] == "forget"), place)]


def _is_barred(engine, track, place, done):
    """Whether one alone with the puller cannot do its item there, or not without a fault."""
    word = track.item_words[place]
    return word == "lock" and engine.pull_locks[done] or word == "touch" and done >= engine.down_since


def _holds_up(engine, track, place, done):
    """Whether the puller's next step waits for one who stands there, or needs the lock that it has."""
    word = engine.step_words[done]
    return word == "wait" and track.under[place] or word == "lock" and track.locking[place]
