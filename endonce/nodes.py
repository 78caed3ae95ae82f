"""Nodes: the steps of a closed history, those together that are done as one."""

from endonce.asked import AT_ONCE
from endonce.data import is_closed
from endonce.errors import NoSums, NotClosed
from endonce.facts import Facts
from endonce.sums import misfit_of

def nodes(setup, history):
    """The nodes of a closed HISTORY whose numbers fit."""
    if not is_closed(history):
        raise NotClosed()
    facts = Facts(setup, history)
    misfit = misfit_of(facts)
    if misfit is not None:
        raise NoSums(misfit[0], misfit[1])
    return nodes_of(facts)


def nodes_of(facts):
    """The nodes of these facts, whose numbers fit."""
    groups = {}
    for step in steps_of_facts(facts):
        head = head_of(facts, step)
        groups[head] = [*groups.get(head, []), step]
    return sorted([tuple(sorted(steps)) for steps in groups.values()])


def steps_of_facts(facts):
    """All steps of a history."""
    steps = [("user", at) for at in range(len(facts.pairs))]
    steps += [("begin", tag) for tag in facts.asked if has_begun(facts, tag)]
    steps += [("end", tag) for tag in facts.ends]
    for tag, completions in facts.told.items():
        fires = [completion for completion in completions if completion[3]]
        steps += [("fire", tag, number) for number in range(len(fires))]
    for number, completion in enumerate(facts.completions):
        steps.append(("post", number))
        if completion[1][0] == "freed":
            steps.append(("free", completion[0], completion[1][1]))
    return steps


def has_begun(facts, tag):
    """Whether this request began, a linktimeout that ended with "off" as its request did."""
    if facts.word_of_end(tag) == "off":
        return facts.began(facts.asked[tag].owner)
    return facts.began(tag)


def head_of(facts, step):
    """The step that lets all else of its node happen."""
    if step[0] == "end":
        return head_of_end(facts, step[1])
    if step[0] != "begin":
        return step
    owner = facts.asked[step[1]].owner
    tag = step[1] if owner is None else owner
    return head_of_end(facts, tag) if ends_at_once(facts, tag) else ("begin", tag)


def ends_at_once(facts, tag):
    """Whether this request, which has begun, ended where it began."""
    return facts.asked[tag].deed[0] in AT_ONCE or facts.word_of_end(tag) == "bare"


def head_of_end(facts, tag):
    """The step that lets this request end."""
    result = facts.ends[tag]
    match result[0]:
        case "cancelled" | "broken":
            return head_of_end(facts, result[1])
        case "off":
            return head_of_end(facts, facts.asked[tag].owner)
        case "stopped":
            return ("user", [event[0] for event, _ in facts.pairs].index("stop"))
        case _:
            return ("end", tag)
