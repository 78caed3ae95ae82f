"""Rows of sums about the queue, the stop and the ends that are told: what does not hold."""


def bad_reaps(facts):
    """Indexes of reaps that tell too many, and of puts told "busy" behind which too few are told."""
    bad = []
    left = len(facts.completions)
    for at, (event, told) in enumerate(facts.pairs):
        if event[0] == "put" and told == "busy" and left <= facts.space:
            bad.append(at)
        if event[0] == "reap":
            left -= len(told)
            if len(told) > min(event[1], facts.space):
                bad.append(at)
    return bad


def bad_kept(facts):
    """Numbers of completions that found the queue with room, but are told as kept."""
    return [number for number, completion in enumerate(facts.completions[:facts.space]) if completion[4]]


def bad_stops(facts):
    """Indexes of puts that are told something else of a stop, and of quiets that tell of requests behind one."""
    bad = []
    stopped = False
    for at, (event, told) in enumerate(facts.pairs):
        if event[0] == "put" and (told == "stopped") != stopped:
            bad.append(at)
        if event[0] == "quiet" and stopped and len(told) > 0:
            bad.append(at)
        stopped = stopped or event[0] == "stop"
    return bad


def bad_ends(facts):
    """Tags of requests of which not just one of these holds: an end is told, it stays, it ended untold."""
    bad = []
    for tag, one in facts.asked.items():
        cases = [tag in facts.ended_at, tag in facts.last, facts.is_untold(one)]
        if cases.count(True) != 1:
            bad.append(tag)
    return bad


def bad_times(facts):
    """Tags of requests whose time came, but not by the clock."""
    latest = facts.time_at(len(facts.pairs))
    bad = []
    for tag, one in facts.asked.items():
        word = facts.word_of_end(tag)
        if one.deed[0] in ("timeout", "linktimeout") and word in ("time", "late") and one.deed[1] > latest:
            bad.append(tag)
    return bad
