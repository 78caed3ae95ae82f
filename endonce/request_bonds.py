"""What must come before what because of the requests themselves: their puts, begins, ends, chains, drains, turns.

Each function returns triples (step, kind, step). Steps that are not of the history may be among them: such triples are
left out later, as those whose steps are done as one.
"""

from endonce.asked import breaks
from endonce.nodes import has_begun
from endonce.requests import where_of


def put_bonds(facts):
    """Puts, and what their requests begin with; puts, and those of the cancels that name their requests."""
    rows = []
    # The requests of a put that was told a word are named by cancels, too.
    puts = [(at, event[1]) for at, (event, _) in enumerate(facts.pairs) if event[0] == "put"]
    places = {request[0]: at for at, lot in puts for request in lot}
    for tag, one in facts.asked.items():
        first = "begin" if has_begun(facts, tag) else "end"
        rows.append((("user", one.at), "put", (first, tag)))
        if one.deed[0] == "cancel":
            rows.append((("user", places[one.deed[1]]), "put", ("user", one.at)))
    return rows


def begun_bonds(facts):
    """The begin, the fires and the end of each request."""
    rows = []
    for tag, completions in facts.told.items():
        many = len([completion for completion in completions if completion[3]])
        line = [("begin", tag)] + [("fire", tag, number) for number in range(many)] + [("end", tag)]
        rows += [(step, "begun", other) for step, other in zip(line, line[1:])]
    return rows


def chain_bonds(facts):
    """The ends of members, and the begins of those directly behind them."""
    rows = [one for one in facts.asked.values() if one.rank > 0]
    return [(("end", one.chain[one.rank - 1]), "chain", ("begin", one.tag)) for one in rows]


def breaks_bonds(facts):
    """The ends of members that were not broken, and those that would have broken them."""
    rows = []
    for tag, one in facts.asked.items():
        if facts.word_of_end(tag) in ("", "broken") or has_begun(facts, tag):
            continue
        for other in [other for other in one.members_ahead() if other in facts.ends]:
            if breaks(facts.asked[other], facts.ends[other], facts.began(other)):
                rows.append((("end", tag), "breaks", ("end", other)))
    return rows


def drain_bonds(facts):
    """What one with "drain" waits for, and what waits for it."""
    rows = []
    for one in [one for one in facts.asked.values() if "drain" in one.flags]:
        for tag, other in facts.asked.items():
            if other.number < one.number:
                rows.append((("end", tag), "drain", ("begin", one.tag)))
            elif other.owner is None and tag not in one.chain:
                rows.append((("end", one.tag), "drain", ("begin", tag)))
    return rows


def off_bonds(facts):
    """The ends of linktimeouts that did not end with their requests, and what these did behind them."""
    rows = []
    for tag, one in facts.asked.items():
        if one.owner is None:
            continue
        if facts.word_of_end(tag) not in ("off", "broken"):
            rows.append((("end", tag), "off", ("end", one.owner)))
        if not has_begun(facts, tag):
            rows.append((("end", tag), "off", ("begin", one.owner)))
    return rows


def updates_by_turns(facts, slot):
    """The ends of the updates of this slot, by the numbers of the turns that they made."""
    steps = {}
    for tag, one in facts.asked.items():
        if one.deed[0] == "update" and one.deed[1] == slot and facts.word_of_end(tag) == "turn":
            steps[facts.ends[tag][1]] = ("end", tag)
    return steps


def lookers_of(facts, slot, number):
    """The tags of the requests that looked at this turn."""
    rows = [tag for tag, turn in facts.looked.items() if turn == number]
    return [tag for tag in rows if where_of(facts.asked[tag].deed) == ("slot", slot)]


def turn_bonds(facts):
    """Updates, those that looked at the turns that they made, and the next updates."""
    rows = []
    for slot in range(len(facts.slots)):
        updates = updates_by_turns(facts, slot)
        for number, step in updates.items():
            rows += [(step, "turn", ("begin", tag)) for tag in lookers_of(facts, slot, number)]
            if number + 1 in updates:
                rows.append((step, "turn", updates[number + 1]))
    return rows


def next_turn_bonds(facts):
    """Those that looked at a turn, and the updates that made the next one."""
    rows = []
    for slot in range(len(facts.slots)):
        for number, step in updates_by_turns(facts, slot).items():
            rows += [(("begin", tag), "turn", step) for tag in lookers_of(facts, slot, number - 1)]
    return rows
