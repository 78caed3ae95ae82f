"""What must come before what because of pipes and buffers: triples (step, kind, step), as in request_bonds."""

from endonce.pieces import given_pieces, taken_pieces


def steps_by_places(pieces):
    """The steps of these pieces, by the places of their letters."""
    return {piece[0] + at: piece[-1] for piece in pieces for at in range(len(piece[1]))}


def ends_at(facts, pipe, words):
    """The pairs (place, step) of the ends at this pipe with a result of one of these words."""
    rows = [(tag, result) for tag, result in facts.ends.items() if result[0] in words and result[1] == pipe]
    return [(result[2], ("end", tag)) for tag, result in rows]


def letter_bonds(facts):
    """The givers of letters, and what comes when these are there."""
    rows = []
    for pipe in facts.pipes:
        givers = steps_by_places(given_pieces(facts, pipe))
        takers = steps_by_places(taken_pieces(facts, pipe))
        none_left = ends_at(facts, pipe, ("no buffer",))
        for place, step in givers.items():
            behind = [takers[place]] if place in takers else []
            behind += [givers[place + 1]] if place + 1 in givers else []
            behind += [other for at, other in none_left if at == place]
            rows += [(step, "letter", other) for other in behind]
    return rows


def taken_bonds(facts):
    """The takers of letters, and what comes when these are gone."""
    rows = []
    for pipe in facts.pipes:
        givers = steps_by_places(given_pieces(facts, pipe))
        pieces = taken_pieces(facts, pipe)
        takers = steps_by_places(pieces)
        at_place = ends_at(facts, pipe, ("end", "no buffer"))
        at_place += [(place, step) for place, text, _, step in pieces if text == ""]
        for place, step in takers.items():
            behind = [takers[place + 1]] if place + 1 in takers else []
            behind += [other for at, other in at_place if at == place + 1]
            # A give does not wait for room.
            behind += [givers[at] for at in [place + facts.room] if at in givers and givers[at][0] == "end"]
            rows += [(step, "taken", other) for other in behind]
    return rows


def short_bonds(facts):
    """What took fewer letters than it could, and the givers of those that came too late for it."""
    rows = []
    for pipe in facts.pipes:
        givers = steps_by_places(given_pieces(facts, pipe))
        pieces = taken_pieces(facts, pipe)
        takers = steps_by_places(pieces)
        for place, text, many, step in pieces:
            if len(text) < many and place + len(text) in givers:
                rows.append((step, "short", givers[place + len(text)]))
        for place, step in ends_at(facts, pipe, ("no buffer",)):
            if place in takers:
                rows.append((step, "short", takers[place]))
    return rows


def shut_bonds(facts):
    """Shuts, and all that names them."""
    rows = []
    for tag, result in facts.ends.items():
        if result[0] in ("end", "broken pipe", "shut already"):
            rows.append((("end", result[-1]), "shut", ("end", tag)))
    for at, (event, told) in enumerate(facts.pairs):
        if event[0] == "give" and told[0] == "shut":
            rows.append((("end", told[1]), "shut", ("user", at)))
    return rows


def shutting_bonds(facts):
    """What put letters into pipes, and the shuts of these."""
    rows = []
    for pipe in facts.pipes:
        for tag in facts.lockers_of(pipe):
            rows += [(step, "shut", ("end", tag)) for _, _, step in given_pieces(facts, pipe)]
    return rows


def lends_of(facts):
    """The lends, by the numbers of the buffers that they lent."""
    steps = {}
    for at, (event, _) in enumerate(facts.pairs):
        if event[0] == "lend":
            first = len(steps)
            for number in range(first, first + event[1]):
                steps[number] = ("user", at)
    return steps


def picks_of(facts):
    """The fires and ends that took buffers, by the numbers of these."""
    steps = {}
    for tag, completions in facts.told.items():
        for number, (_, result, _, more, _) in enumerate(completions):
            if result[0] == "picked":
                steps[result[4]] = ("fire", tag, number) if more else ("end", tag)
    return steps


def without_buffer(facts):
    """The pairs (lent, step) of the ends with "no buffer"."""
    return [(result[3], ("end", tag)) for tag, result in facts.ends.items() if result[0] == "no buffer"]


def lent_bonds(facts):
    """Lends and picks of buffers, and what comes when these are lent or gone."""
    rows = []
    lends = lends_of(facts)
    picks = picks_of(facts)
    left_none = without_buffer(facts)
    for number, step in lends.items():
        if number in picks:
            rows.append((step, "lent", picks[number]))
        rows += [(step, "lent", other) for lent, other in left_none if lent == number + 1]
    for number, step in picks.items():
        if number + 1 in picks:
            rows.append((step, "lent", picks[number + 1]))
        rows += [(step, "lent", other) for lent, other in left_none if lent == number + 1]
    return rows


def lending_bonds(facts):
    """Ends without a buffer, and the lends that came too late for them."""
    lends = lends_of(facts)
    return [(step, "lent", lends[lent]) for lent, step in without_buffer(facts) if lent in lends]
