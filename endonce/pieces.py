"""Pieces of pipes: which letters were given and taken, at which places, and by which steps."""


def given_pieces(facts, pipe):
    """The triples (place, text, step) of the letters that were given to the pipe or written."""
    pieces = []
    for at, (event, told) in enumerate(facts.pairs):
        if event[0] == "give" and event[1] == pipe and told[0] == "given":
            pieces.append((told[1], event[2], ("user", at)))
    for one in facts.asked.values():
        if facts.word_of_end(one.tag) == "wrote" and facts.ends[one.tag][1] == pipe:
            pieces.append((facts.ends[one.tag][2], one.deed[2], ("end", one.tag)))
    return pieces


def readers(facts):
    """The requests that may take letters."""
    return [one for one in facts.asked.values() if one.deed[0] in ("read", "reads")]


def taken_pieces(facts, pipe):
    """The fours (place, text, many, step) of the letters of the pipe that were taken, and of takes of none."""
    pieces = []
    for at, (event, told) in enumerate(facts.pairs):
        if event[0] == "take" and event[1] == pipe:
            pieces.append((told[0], told[1], event[2], ("user", at)))
    for one in readers(facts):
        for number, (_, result, _, more, _) in enumerate(facts.told[one.tag]):
            if result[0] in ("text", "picked") and result[1] == pipe:
                step = ("fire", one.tag, number) if more else ("end", one.tag)
                pieces.append((result[2], result[3], one.deed[2], step))
    return pieces


def letters_of(pieces):
    """The pairs (place, letter) of these pieces."""
    return [(piece[0] + at, letter) for piece in pieces for at, letter in enumerate(piece[1])]
