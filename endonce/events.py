"""User events: what each one does with a state, and what it is told."""

from endonce.asked import asked_in
from endonce.ends import end_all, tell_ends


def put(state, lot, at):
    """Put this lot, as the event number at."""
    if state.stopped:
        return "stopped"
    if len(state.posted) > state.space:
        return "busy"
    for tag, one in asked_in(lot, at, len(state.asked)).items():
        state.asked[tag] = one
    return None


def reap(state, most):
    """Reap so many completions at most."""
    many = min(most, state.space)
    told = tuple(state.posted[:many])
    state.posted = state.posted[many:]
    return told


def give(state, pipe, text):
    """Give this text to the pipe."""
    if pipe in state.shutter:
        return ("shut", state.shutter[pipe])
    place = state.passed[pipe] + len(state.there[pipe])
    state.there[pipe] += text
    return ("given", place)


def take(state, pipe, many):
    """Take so many letters of the pipe at most."""
    place = state.passed[pipe]
    text = state.there[pipe][:many]
    state.there[pipe] = state.there[pipe][many:]
    state.passed[pipe] += len(text)
    return (place, text)


def stop(state):
    """Stop the ring."""
    state.stopped = True
    # Linktimeouts end with their requests; those of works that go on do so, too, though a cancelall would take them.
    end_all(state, [one for one in state.unended() if one.owner is None], ("stopped",))
    tell_ends(state)


def unended_triples(state):
    """What a quiet is told."""
    rows = [(one.tag, one.tag in state.begun, state.looked.get(one.tag)) for one in state.unended()]
    return tuple(sorted(rows))


def do_event(state, event, at):
    """Do this EVENT, as the number at, and return what it is told."""
    match event[0]:
        case "put":
            return put(state, event[1], at)
        case "reap":
            return reap(state, event[1])
        case "give":
            return give(state, event[1], event[2])
        case "take":
            return take(state, event[1], event[2])
        case "quiet":
            return unended_triples(state)
        case "clock":
            state.time = event[1]
        case "lend":
            state.lent += event[1]
        case _:
            stop(state)
    return None
