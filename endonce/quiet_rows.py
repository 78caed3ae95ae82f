"""The row of sums about quiets: whose tables do not fit, or show someone that could go on."""

from endonce.moments import ended_by, many_there
from endonce.moves import may_begin, may_go_on
from endonce.requests import where_of


def bad_quiets(facts):
    """Indexes of quiets whose tables cannot be such."""
    return [at for at in facts.tables if not (lists_well(facts, at) and is_stuck(facts, at))]


def lists_well(facts, at):
    """Whether those in this table had not ended by what is told ahead."""
    # Whether begun and turn fit to what is told elsewhere, the rows "begin" and "slot" tell ahead of this one.
    for tag in facts.tables[at]:
        if facts.ended_at.get(tag, at) < at:
            return False
        for other, table in facts.tables.items():
            if facts.asked[tag].at < other < at and tag not in table:
                return False
    return True


def is_stuck(facts, at):
    """Whether nothing in this table could begin, fire or end, all else that was put ahead having ended."""
    ended = ended_by(facts, at)
    for tag, (begun, _) in facts.tables[at].items():
        one = facts.asked[tag]
        if begun and could_go_on(facts, at, ended, one):
            return False
        if not begun and one.owner is None and may_begin(facts.asked, ended, one):
            return False
    return True


def could_go_on(facts, at, ended, one):
    """Whether this request, which has begun, could fire or end."""
    time = facts.time_at(at)
    if where_of(one.deed) is None:
        return may_go_on(one.deed, 0, False, facts.room, time)
    pipe = facts.pipe_of(one.tag)
    if pipe is None:
        return False
    shut = any([tag in ended for tag in facts.lockers_of(pipe)])
    return may_go_on(one.deed, many_there(facts, at, ended, pipe), shut, facts.room, time)
