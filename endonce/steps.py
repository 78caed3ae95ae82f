"""Steps: what each one does."""

from endonce.ends import end, end_all, is_late, tell, tell_ends
from endonce.requests import has_slot


def begin(state, tag):
    """Let this request begin."""
    one = state.asked[tag]
    state.begun[tag] = True
    if one.timer is not None and one.timer not in state.ended:
        state.begun[one.timer] = True
    if has_slot(one.deed):
        slot = one.deed[1][1]
        state.looked[tag] = len(state.turns[slot]) - 1
        if state.pipe_of(tag) is None:
            end(state, tag, ("bare",))
            return
    match one.deed[0]:
        case "nop":
            end(state, tag, ("done",))
        case "shut":
            begin_shut(state, tag)
        case "update":
            begin_update(state, one)
        case "cancel":
            begin_cancel(state, one)
        case "cancelall":
            begin_cancelall(state, one)


def begin_shut(state, tag):
    """Let a shut begin and end."""
    pipe = state.pipe_of(tag)
    if pipe in state.shutter:
        end(state, tag, ("shut already", state.shutter[pipe]))
    else:
        state.shutter[pipe] = tag
        end(state, tag, ("done",))


def begin_update(state, one):
    """Let an update begin and end."""
    _, slot, pipe = one.deed
    state.turns[slot].append(pipe)
    end(state, one.tag, ("turn", len(state.turns[slot]) - 1))


def begin_cancel(state, one):
    """Let a cancel begin and end."""
    tag = one.deed[1]
    if tag not in state.asked:
        end(state, one.tag, ("none",))
    elif tag in state.ended:
        end(state, one.tag, ("gone",))
    elif is_late(state, state.asked[tag]):
        end(state, one.tag, ("late",))
    else:
        begun = tag in state.begun
        end(state, tag, ("cancelled", one.tag, begun))
        end(state, one.tag, ("took", begun))


def begin_cancelall(state, one):
    """Let a cancelall begin and end."""
    rows = [other for other in state.unended() if other.number < one.number]
    late = [other.tag for other in rows if is_late(state, other)]
    taken = end_all(state, rows, ("cancelled", one.tag))
    end(state, one.tag, ("all", tuple(sorted(taken)), tuple(sorted(late))))


def taken_letters(state, one):
    """The result of taking letters that are there, a buffer too for "pick"."""
    pipe = state.pipe_of(one.tag)
    place = state.passed[pipe]
    text = state.there[pipe][:one.deed[2]]
    state.there[pipe] = state.there[pipe][len(text):]
    state.passed[pipe] += len(text)
    if "pick" not in one.flags:
        return ("text", pipe, place, text)
    state.used += 1
    return ("picked", pipe, place, text, state.used - 1)


def fire(state, tag, number):
    """Let this reads fire."""
    result = taken_letters(state, state.asked[tag])
    state.fired[tag] = number + 1
    tell(state, number, (tag, result, state.looked.get(tag), True))


def end_by_itself(state, tag):
    """Let a request that has begun end."""
    one = state.asked[tag]
    match one.deed[0]:
        case "work":
            end(state, tag, ("done",) if one.deed[1] else ("bad",))
        case "write":
            end(state, tag, written(state, one))
        case "timeout":
            end(state, tag, ("time",))
        case "linktimeout":
            end_linktimeout(state, one)
        case _:
            end(state, tag, read_at_end(state, one))


def read_at_end(state, one):
    """The result with which a read or reads ends."""
    pipe = state.pipe_of(one.tag)
    if state.there[pipe] == "":
        return ("end", pipe, state.passed[pipe], state.shutter[pipe])
    if "pick" in one.flags and state.used == state.lent:
        return ("no buffer", pipe, state.passed[pipe], state.lent)
    return taken_letters(state, one)


def written(state, one):
    """The result with which a write ends."""
    pipe = state.pipe_of(one.tag)
    if pipe in state.shutter:
        return ("broken pipe", pipe, state.shutter[pipe])
    place = state.passed[pipe] + len(state.there[pipe])
    state.there[pipe] += one.deed[2]
    return ("wrote", pipe, place)


def end_linktimeout(state, one):
    """Let a linktimeout end, and its request with it unless this is a work."""
    if state.asked[one.owner].deed[0] == "work":
        end(state, one.tag, ("late",))
    else:
        end(state, one.tag, ("time",))
        end(state, one.owner, ("cancelled", one.tag, True))


def free(state, slot, number):
    """Tell the notice of this turn."""
    state.freed[(slot, number)] = True
    state.unposted.append((("note", slot, number), (slot, ("freed", number), None, False)))


def post(state, step):
    """Let what this STEP posts become outstanding."""
    at = [row[0] for row in state.unposted].index(step)
    completion = state.unposted.pop(at)[1]
    kept = len(state.posted) >= state.space
    state.posted.append((*completion, kept))


def do_step(state, step):
    """Do this STEP, which is possible."""
    match step[0]:
        case "begin":
            begin(state, step[1])
        case "fire":
            fire(state, step[1], step[2])
        case "end":
            end_by_itself(state, step[1])
        case "free":
            free(state, step[1], step[2])
        case _:
            post(state, step)
    tell_ends(state)
