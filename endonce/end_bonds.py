"""What must come before what because of clocks, cancels and the stop: triples, as in request_bonds."""


def time_bonds(facts):
    """The first clocks that reach a time, and the ends that waited for it."""
    rows = []
    clocks = [(at, event[1]) for at, (event, _) in enumerate(facts.pairs) if event[0] == "clock"]
    for tag, one in facts.asked.items():
        if one.deed[0] not in ("timeout", "linktimeout") or facts.word_of_end(tag) not in ("time", "late"):
            continue
        if one.deed[1] > 0:
            first = [at for at, time in clocks if time >= one.deed[1]][0]
            rows.append((("user", first), "time", ("end", tag)))
    return rows


def told_late(facts, one):
    """The tags of the works that this request, a cancel or cancelall, was too late for."""
    match facts.word_of_end(one.tag):
        case "late":
            return [one.deed[1]] if one.deed[0] == "cancel" else []
        case "all":
            return list(facts.ends[one.tag][2])
        case _:
            return []


def cancel_bonds(facts):
    """What a cancel or cancelall tells to have been there ahead of it."""
    rows = []
    for tag, one in facts.asked.items():
        late = told_late(facts, one)
        rows += [(("begin", other), "cancel", ("end", tag)) for other in late]
        if facts.word_of_end(tag) == "gone":
            rows.append((("end", one.deed[1]), "cancel", ("end", tag)))
        if facts.word_of_end(tag) == "all":
            ahead = [other.tag for other in facts.asked.values() if other.number < one.number]
            rows += [(("end", other), "cancel", ("end", tag)) for other in ahead if other not in late]
    return rows


def late_bonds(facts):
    """Cancels and cancelalls, and the ends of the works that they were too late for."""
    return [(("end", tag), "cancel", ("end", other)) for tag, one in facts.asked.items()
            for other in told_late(facts, one)]


def is_begun_work(facts, tag):
    """Whether this is a work that began."""
    return facts.asked[tag].deed[0] == "work" and facts.began(tag)


def stop_bonds(facts):
    """What had happened ahead of the stop."""
    rows = []
    for at in [at for at, (event, _) in enumerate(facts.pairs) if event[0] == "stop"]:
        for one in [one for one in facts.asked.values() if one.at < at]:
            if is_begun_work(facts, one.tag):
                rows.append((("begin", one.tag), "stop", ("user", at)))
            elif one.owner is None or not is_begun_work(facts, one.owner):
                rows.append((("end", one.tag), "stop", ("user", at)))
    return rows
