"""What must come before what because of the user's order, of frees and of the queue: triples, as in request_bonds."""

from endonce.request_bonds import lookers_of, updates_by_turns


def user_bonds(facts):
    """Each pair of the history, and the next one."""
    return [(("user", at), "user", ("user", at + 1)) for at in range(len(facts.pairs) - 1)]


def told_steps(facts):
    """The steps that are told, by the numbers of their completions."""
    steps = []
    fired = {}
    for name, result, _, more, _ in facts.completions:
        if result[0] == "freed":
            steps.append(("free", name, result[1]))
        elif more:
            steps.append(("fire", name, fired.get(name, 0)))
            fired[name] = fired.get(name, 0) + 1
        else:
            steps.append(("end", name))
    return steps


def frees_of(facts):
    """The frees, each with the ends of the update and of the requests for which it waited."""
    frees = {}
    for step in told_steps(facts):
        if step[0] == "free":
            _, slot, number = step
            ends = [("end", tag) for tag in lookers_of(facts, slot, number)]
            frees[step] = [updates_by_turns(facts, slot)[number + 1], *ends]
    return frees


def free_bonds(facts):
    """What a free waited for, and the free."""
    return [(end, "free", step) for step, ends in frees_of(facts).items() for end in ends]


def post_bonds(facts):
    """What is told, its posts, and the next posts."""
    steps = told_steps(facts)
    rows = [(step, "post", ("post", number)) for number, step in enumerate(steps)]
    return rows + [(("post", number), "post", ("post", number + 1)) for number in range(len(steps) - 1)]


def reaps_of(facts):
    """The triples (index, many told ahead, many told with it) of the reaps."""
    rows = []
    many = 0
    for at, (event, told) in enumerate(facts.pairs):
        if event[0] == "reap":
            rows.append((at, many, many + len(told)))
            many += len(told)
    return rows


def reap_bonds(facts):
    """Posts and the reaps that tell them; reaps that found no more, and the first posts behind them."""
    rows = []
    for at, first, last in reaps_of(facts):
        rows += [(("post", number), "reap", ("user", at)) for number in range(first, last)]
        if last - first < min(facts.pairs[at][0][1], facts.space):
            rows.append((("user", at), "reap", ("post", last)))
    return rows


def space_bonds(facts):
    """Posts that found the queue full, or not, and the reaps that made room for them."""
    rows = []
    reaps = reaps_of(facts)
    for number in range(facts.space, len(facts.completions)):
        reap = [("user", at) for at, _, last in reaps if last >= number - facts.space + 1][0]
        post = ("post", number)
        kept = facts.completions[number][4]
        rows.append((post, "space", reap) if kept else (reap, "space", post))
    return rows


def busy_bonds(facts):
    """The posts that let a put be told "busy", and the puts."""
    rows = []
    many = 0
    for at, (event, told) in enumerate(facts.pairs):
        post = ("post", many + facts.space)
        if event[0] == "reap":
            many += len(told)
        elif event[0] == "put" and told == "busy":
            rows.append((post, "busy", ("user", at)))
        elif event[0] == "put" and told is None:
            rows.append((("user", at), "busy", post))
    return rows
