"""The row of sums about quiets: whose tables do not fit, or show someone that could go on."""

from endonce.moves import may_begin, may_go_on
from endonce.pieces import given_pieces, letters_of, taken_pieces
from endonce.requests import where_of


def bad_quiets(facts):
    """Indexes of quiets whose tables cannot be such."""
    return [at for at in facts.tables if not (lists_well(facts, at) and is_stuck(facts, at))]


def lists_well(facts, at):
    """Whether those in this table had not ended by what is told ahead."""
    # Whether begun and turn fit to what is told elsewhere, the rows "begin" and "slot" tell ahead of this one.
    for tag in facts.tables[at]:
        if facts.ended_at.get(tag, at) < at:
            return False
        for other, table in facts.tables.items():
            if facts.asked[tag].at < other < at and tag not in table:
                return False
    return True


def ended_by(facts, at):
    """By tags those that were put ahead of this quiet, and are not in its table."""
    rows = [one for one in facts.asked.values() if one.at < at]
    return {one.tag: True for one in rows if one.tag not in facts.tables[at]}


def is_stuck(facts, at):
    """Whether nothing in this table could begin, fire or end, all else that was put ahead having ended."""
    ended = ended_by(facts, at)
    for tag, (begun, _) in facts.tables[at].items():
        one = facts.asked[tag]
        if begun and could_go_on(facts, at, ended, one):
            return False
        if not begun and one.owner is None and may_begin(facts.asked, ended, one):
            return False
    return True


def could_go_on(facts, at, ended, one):
    """Whether this request, which has begun, could fire or end."""
    time = facts.time_at(at)
    if where_of(one.deed) is None:
        return may_go_on(one.deed, 0, False, facts.room, time)
    pipe = facts.pipe_of(one.tag)
    if pipe is None:
        return False
    shut = any([tag in ended for tag in facts.lockers_of(pipe)])
    return may_go_on(one.deed, many_there(facts, at, ended, pipe), shut, facts.room, time)


def many_there(facts, at, ended, pipe):
    """How many letters of the pipe are there at this quiet."""
    pieces = [piece for piece in given_pieces(facts, pipe) if is_done(piece[-1], at, ended)]
    given = {place: True for place, _ in letters_of(pieces)}
    pieces = taken_pieces(facts, pipe)
    pieces = [piece for piece in pieces if is_done(piece[-1], at, ended) or has_fired(facts, at, piece, given)]
    taken = {place: True for place, _ in letters_of(pieces)}
    return len([place for place in given if place not in taken])


def is_done(step, at, ended):
    """Whether this step, which gave or took letters, was done by then: of an event ahead, or of one that ended."""
    return step[1] < at if step[0] == "user" else step[1] in ended


def has_fired(facts, at, piece, given):
    """Whether this piece is a fire of one in the table who had begun, and its letters had all been given."""
    place, text, _, step = piece
    if step[0] != "fire" or not facts.tables[at].get(step[1], (False, None))[0]:
        return False
    return all([number in given for number in range(place, place + len(text))])
