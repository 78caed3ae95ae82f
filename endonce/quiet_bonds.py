"""What must come before what because of quiets: triples (step, kind, step), as in request_bonds."""

from endonce.moments import ended_by, fired_pieces
from endonce.queue_bonds import frees_of, told_steps


def quiet_bonds(facts):
    """All that had happened by a quiet, each quiet, and all that had not."""
    steps = told_steps(facts)
    frees = frees_of(facts)
    rows = []
    for at in facts.tables:
        ended = ended_by(facts, at)
        rows += [(step, "quiet", ("user", at)) for step in steps_ahead(facts, at, ended, steps, frees)]
        rows += [(("user", at), "quiet", step) for step in steps_behind(facts, at, ended, steps, frees)]
    return rows


def fires_ahead(facts, at, ended):
    """The fires of those in the table of this quiet that had happened."""
    return [piece[-1] for pipe in facts.pipes for piece in fired_pieces(facts, at, ended, pipe)]


def frees_ahead(ended, frees):
    """The frees that had happened, as all that they waited for had ended."""
    return [step for step, ends in frees.items() if all([end[1] in ended for end in ends])]


def steps_ahead(facts, at, ended, steps, frees):
    """All that had happened by this quiet."""
    done = [("end", tag) for tag in ended] + fires_ahead(facts, at, ended) + frees_ahead(ended, frees)
    begins = [("begin", tag) for tag, (begun, _) in facts.tables[at].items() if begun]
    told = [step for step in steps if step in done or (step[0] == "fire" and step[1] in ended)]
    return done + begins + [("post", steps.index(step)) for step in told]


def steps_behind(facts, at, ended, steps, frees):
    """All that happened behind this quiet, of those in its table and of frees."""
    table = facts.tables[at]
    fired = fires_ahead(facts, at, ended)
    behind = [("begin", tag) for tag, (begun, _) in table.items() if not begun]
    behind += [("end", tag) for tag in table]
    behind += [step for step in steps if step[0] == "fire" and step[1] in table and step not in fired]
    return behind + [step for step in frees if step not in frees_ahead(ended, frees)]
