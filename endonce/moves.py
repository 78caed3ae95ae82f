"""Which steps are possible."""


def may_begin(asked, ended, one):
    """Whether a request that has not begun, no linktimeout, may begin; ended has the tags of those that have ended."""
    ahead = one.members_ahead()
    if len(ahead) > 0 and ahead[-1] not in ended:
        return False
    waiting = [other for other in asked.values() if other.number < one.number and other.tag not in ended]
    if "drain" in one.flags and len(waiting) > 0:
        return False
    return not any(["drain" in other.flags and other.tag not in one.chain for other in waiting])


def may_go_on(deed, many, shut, room, time):
    """Whether a request that has begun may fire or end; many letters are there, shut tells of the pipe."""
    match deed[0]:
        case "read" | "reads":
            return shut or many > 0
        case "write":
            return shut or many + len(deed[2]) <= room
        case "timeout" | "linktimeout":
            return time >= deed[1]
        case _:
            return deed[0] == "work"


def goes_on(state, one):
    """Whether this request, which has begun, may fire or end."""
    if one.deed[0] not in ("read", "reads", "write"):
        return may_go_on(one.deed, 0, False, state.room, state.time)
    pipe = state.pipe_of(one.tag)
    return may_go_on(one.deed, len(state.there[pipe]), pipe in state.shutter, state.room, state.time)


def fires(state, one):
    """Whether this request, which may fire or end, fires."""
    if one.deed[0] != "reads" or state.there[state.pipe_of(one.tag)] == "":
        return False
    return "pick" not in one.flags or state.used < state.lent


def frees(state):
    """The STEPs that free a turn."""
    steps = []
    for slot, pipes in enumerate(state.turns):
        for number, pipe in enumerate(pipes[:-1]):
            if pipe is None or (slot, number) in state.freed:
                continue
            if len(state.holders_of(slot, number)) == 0:
                steps.append(("free", slot, number))
    return steps


def posts(state):
    """The STEPs that post, of each request the first one alone."""
    steps = []
    here = {}
    for step, _ in state.unposted:
        if step[1] not in here:
            steps.append(step)
        # A slot may have several notes at once.
        if step[0] == "post":
            here[step[1]] = True
    return steps


def possible_in(state):
    """All STEPs that are possible, in their order."""
    unended = state.unended()
    idle = [one for one in unended if one.owner is None and one.tag not in state.begun]
    going = [one for one in unended if one.tag in state.begun and goes_on(state, one)]
    steps = [("begin", one.tag) for one in idle if may_begin(state.asked, state.ended, one)]
    steps += [("fire", one.tag, state.fired.get(one.tag, 0)) for one in going if fires(state, one)]
    steps += [("end", one.tag) for one in going if not fires(state, one)]
    return steps + frees(state) + posts(state)
