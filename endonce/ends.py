"""Ends of requests, with all that they end in the same step."""

from endonce.asked import breaks


def settle(state, tag, result):
    """Let this request end, and its linktimeout, but break no chain."""
    state.ended[tag] = result
    state.fresh.append(tag)
    timer = state.asked[tag].timer
    if timer is not None and timer not in state.ended:
        state.ended[timer] = ("off",)
        state.fresh.append(timer)


def end(state, tag, result):
    """Let this request end, and all that ends with it."""
    one = state.asked[tag]
    settle(state, tag, result)
    # A linktimeout has no members behind it.
    if breaks(one, result, tag in state.begun):
        for member in one.members_behind():
            if member not in state.ended:
                settle(state, member, ("broken", tag))


def is_late(state, one):
    """Whether this is a work that has begun, which nothing ends from without."""
    return one.deed[0] == "work" and one.tag in state.begun


def end_all(state, rows, result):
    """End these requests, which have not ended, with this result; of linktimeouts those of works that go on alone."""
    taken = []
    for one in rows:
        if is_late(state, one) or (one.owner is not None and not is_late(state, state.asked[one.owner])):
            continue
        taken.append((one.tag, one.tag in state.begun))
    for tag, begun in taken:
        settle(state, tag, (*result, begun))
    return taken


def tell(state, number, completion):
    """Let this be posted, as the thing with this number that its request tells."""
    state.unposted.append((("post", completion[0], number), completion))


def tell_ends(state):
    """Let the ends of this step or event be posted, by the order in which their requests were put."""
    for tag in sorted(state.fresh, key=lambda name: state.asked[name].number):
        result = state.ended[tag]
        if "silent" not in state.asked[tag].flags or result != ("done",):
            tell(state, state.fired.get(tag, 0), (tag, result, state.looked.get(tag), False))
    state.fresh = []
