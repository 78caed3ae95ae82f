"""What had happened by a quiet of a history, as its table tells: who had ended, which letters were given and taken."""

from endonce.pieces import given_pieces, letters_of, taken_pieces


def ended_by(facts, at):
    """By tags those that were put ahead of this quiet, and are not in its table."""
    rows = [one for one in facts.asked.values() if one.at < at]
    return {one.tag: True for one in rows if one.tag not in facts.tables[at]}


def is_done(step, at, ended):
    """Whether this step, which gave or took letters, was done by then: of an event ahead, or of one that ended."""
    return step[1] < at if step[0] == "user" else step[1] in ended


def given_by(facts, at, ended, pipe):
    """The places of the letters of the pipe that had been given or written."""
    pieces = [piece for piece in given_pieces(facts, pipe) if is_done(piece[-1], at, ended)]
    return {place: True for place, _ in letters_of(pieces)}


def has_fired(facts, at, piece, given):
    """Whether this piece is a fire of one in the table who had begun, and its letters had all been given."""
    place, text, _, step = piece
    if step[0] != "fire" or not facts.tables[at].get(step[1], (False, None))[0]:
        return False
    return all([number in given for number in range(place, place + len(text))])


def fired_pieces(facts, at, ended, pipe):
    """The pieces of the pipe that fires of those in the table had taken."""
    given = given_by(facts, at, ended, pipe)
    return [piece for piece in taken_pieces(facts, pipe) if has_fired(facts, at, piece, given)]


def many_there(facts, at, ended, pipe):
    """How many letters of the pipe were there."""
    pieces = [piece for piece in taken_pieces(facts, pipe) if is_done(piece[-1], at, ended)]
    taken = {place: True for place, _ in letters_of(pieces + fired_pieces(facts, at, ended, pipe))}
    return len([place for place in given_by(facts, at, ended, pipe) if place not in taken])
