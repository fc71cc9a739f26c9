"""Putting events into an order that keeps pairs of them, or finding a ring of these pairs ([12])."""


def order_of(events, pairs):
    """A list of all events in an order that keeps the pairs, or None."""
    placed = _placed(events, _ahead_of(events, pairs))
    return placed if len(placed) == len(events) else None


def ring_of(events, pairs):
    """A tuple of events such that each one and the next one, and the last and the first one, are a pair, or None."""
    ahead = _ahead_of(events, pairs)
    placed = _placed(events, ahead)
    left = [event for event in events if event not in placed]
    if len(left) == 0:
        return None
    # Each one that is left has another one ahead that is left: going back, one comes around.
    walked = []
    event = left[0]
    while event not in walked:
        walked.append(event)
        event = [other for other in ahead[event] if other in left][0]
    ring = walked[walked.index(event):]
    return tuple(ring[::-1])


def _ahead_of(events, pairs):
    """A dict from each event to the list of those that are ahead of it in a pair."""
    ahead = {event: [] for event in events}
    for event, other in pairs:
        ahead[other].append(event)
    return ahead


def _placed(events, ahead):
    """The list of the events that can be put into an order, in such an order."""
    placed = {}
    free = events
    while len(free) > 0:
        free = [event for event in events
                if event not in placed and all([other in placed for other in ahead[event]])]
        for event in free:
            placed[event] = True
    return list(placed)
