"""The row of sums about those that ended others: whose result does not fit."""


def bad_by(facts):
    """Tags of requests whose results do not fit to others, and those told to gives that do not."""
    bad = []
    for one in facts.asked.values():
        if not fits(facts, one):
            bad.append(one.tag)
    for event, told in facts.pairs:
        if event[0] == "give" and told[0] == "shut" and told[1] not in facts.lockers_of(event[1]):
            bad.append(told[1])
    return bad


def fits(facts, one):
    """Whether the result of this request, if it has one, fits to those of others."""
    if one.owner is not None and not lasts_well(facts, one):
        return False
    match facts.word_of_end(one.tag):
        case "done" | "shut already" | "end" | "broken pipe":
            return shuts_well(facts, one)
        case "cancelled":
            return is_ended_well(facts, one)
        case "took":
            return is_taken(facts, one.deed[1], one.tag, facts.ends[one.tag][1])
        case "all":
            return all_fits(facts, one)
        case "late":
            return is_late(facts, one.owner if one.owner is not None else one.deed[1])
        case "gone":
            return one.deed[1] in facts.asked
        case "none":
            return one.deed[1] not in facts.asked
        case "time":
            return one.owner is None or is_taken(facts, one.owner, one.tag, True)
        case "stopped":
            return has_stop_behind(facts, one)
        case _:
            return True


def shuts_well(facts, one):
    """Whether a result fits to the shut that ended with "done" of its pipe, if it tells of one."""
    result = facts.ends[one.tag]
    match result[0]:
        case "done":
            return one.deed[0] != "shut" or len(facts.lockers_of(facts.pipe_of(one.tag))) == 1
        case "shut already":
            return result[1] in facts.lockers_of(facts.pipe_of(one.tag))
        case _:
            # The pipe stands first and the by last, in "end" as in "broken pipe".
            return result[-1] in facts.lockers_of(result[1])


def is_taken(facts, tag, by, begun):
    """Whether the request with this tag is told to have been ended so."""
    return facts.ends.get(tag) == ("cancelled", by, begun)


def is_ended_well(facts, one):
    """Whether one who is told to have been cancelled is so by a cancel, a cancelall or its linktimeout."""
    _, by, begun = facts.ends[one.tag]
    if by not in facts.asked:
        return False
    other = facts.asked[by]
    result = facts.ends.get(by, ("",))
    if by == one.timer:
        return result == ("time",)
    # One that could not end it fits by its own result all the same: whom it would end is who does not fit.
    if not may_take(other, one):
        return False
    if other.deed == ("cancel", one.tag):
        return result == ("took", begun)
    return result[0] == "all" and (one.tag, begun) in result[1]


def may_take(other, one):
    """Whether the cancel or cancelall can begin while this request has not ended."""
    # The begin of a linktimeout is its request's, so a ring of steps tells of these.
    return "drain" not in other.flags and "drain" not in one.flags and one.tag not in other.chain


def all_fits(facts, one):
    """Whether what a cancelall tells fits to those of which it tells."""
    _, taken, late = facts.ends[one.tag]
    if not all([is_taken(facts, tag, one.tag, begun) for tag, begun in taken]):
        return False
    if not all([is_late(facts, tag) for tag in late]):
        return False
    names = [tag for tag, _ in taken] + list(late)
    rows = [facts.asked[tag] for tag in names]
    return all([row.number < one.number and (row.owner is None or row.owner in late) for row in rows])


def is_late(facts, tag):
    """Whether this is a work that began."""
    return tag in facts.asked and facts.asked[tag].deed[0] == "work" and facts.began(tag)


def has_stop_behind(facts, one):
    """Whether a stop stands behind the put of this request."""
    return "stop" in [event[0] for event, _ in facts.pairs[one.at:]]


def lasts_well(facts, one):
    """Whether this linktimeout stays just as long as its request lets it."""
    has_end = one.tag in facts.ends
    if (one.tag in facts.last) != (one.owner in facts.last and not has_end):
        return False
    return facts.word_of_end(one.tag) != "off" or one.owner in facts.ends
