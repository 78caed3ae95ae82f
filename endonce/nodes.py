"""Nodes: the steps of a closed history, those together that are done as one."""

from endonce.asked import AT_ONCE
from endonce.errors import NoSums
from endonce.facts import closed_facts
from endonce.sums import misfit_of


def nodes(setup, history):
    """The nodes of a closed HISTORY whose numbers fit."""
    return nodes_of(fitting_facts(setup, history))


def fitting_facts(setup, history):
    """The facts of a closed HISTORY whose numbers fit."""
    facts = closed_facts(setup, history)
    misfit = misfit_of(facts)
    if misfit is not None:
        raise NoSums(misfit[0], misfit[1])
    return facts


def nodes_of(facts):
    """The nodes of these facts, whose numbers fit."""
    return sorted(list(nodes_by_heads(facts).values()))


def nodes_by_heads(facts):
    """The nodes of these facts, by those of their steps that let all else of them happen."""
    groups = {}
    for step in steps_of_facts(facts):
        head = head_of(facts, step)
        groups[head] = [*groups.get(head, []), step]
    return {head: tuple(sorted(steps)) for head, steps in groups.items()}


def names_of(facts):
    """By the steps of these facts the names of their nodes: of each node the least of its steps."""
    return {step: node[0] for node in nodes_of(facts) for step in node}


def steps_of_facts(facts):
    """All steps of a history."""
    steps = [("user", at) for at in range(len(facts.pairs))]
    steps += [("begin", tag) for tag in facts.asked if has_begun(facts, tag)]
    steps += [("end", tag) for tag in facts.ends]
    for tag, completions in facts.told.items():
        fires = [completion for completion in completions if completion[3]]
        steps += [("fire", tag, number) for number in range(len(fires))]
    for number, completion in enumerate(facts.completions):
        steps.append(("post", number))
        if completion[1][0] == "freed":
            steps.append(("free", completion[0], completion[1][1]))
    return steps


def has_begun(facts, tag):
    """Whether this request began, a linktimeout that ended with "off" as its request did."""
    if facts.word_of_end(tag) == "off":
        return facts.began(facts.asked[tag].owner)
    return facts.began(tag)


def head_of(facts, step):
    """The step that lets all else of its node happen."""
    if step[0] == "end":
        return head_of_end(facts, step[1])
    if step[0] != "begin":
        return step
    owner = facts.asked[step[1]].owner
    tag = step[1] if owner is None else owner
    return head_of_end(facts, tag) if ends_at_once(facts, tag) else ("begin", tag)


def ends_at_once(facts, tag):
    """Whether this request, which has begun, ended where it began."""
    return facts.asked[tag].deed[0] in AT_ONCE or facts.word_of_end(tag) == "bare"


def head_of_end(facts, tag):
    """The step that lets this request end."""
    result = facts.ends[tag]
    match result[0]:
        case "cancelled" | "broken":
            return head_of_end(facts, result[1])
        case "off":
            return head_of_end(facts, facts.asked[tag].owner)
        case "stopped":
            return ("user", [event[0] for event, _ in facts.pairs].index("stop"))
        case _:
            return ("end", tag)
