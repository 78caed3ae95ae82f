"""Fates: the ends that the requests of a script can have, each with the least CHOICES that lead to it."""

from endonce.data import tags
from endonce.errors import NoTag
from endonce.facts import Facts
from endonce.runs import closed_histories
from endonce.tuples import in_tuples

STAYS = ("stays",)
NOT_PUT = ("not put",)


def fates(setup, script, tag):
    """The pairs of each FATE that the tag can have and the least CHOICES that lead to it."""
    expect_tags(script, [tag])
    found = {}
    for facts, choices in endings(setup, script):
        found.setdefault(fate_of(facts, tag), choices)
    return sorted([(fate, choices) for fate, choices in found.items()])


def together(setup, script, wanted):
    """The least CHOICES that lead to an ending in which each of these tags has this FATE; None if there is none."""
    pairs = in_tuples(wanted)
    expect_tags(script, [tag for tag, _ in pairs])
    for facts, choices in endings(setup, script):
        if all([fate_of(facts, tag) == fate for tag, fate in pairs]):
            return choices
    return None


def standing(setup, script):
    """The tags of those that stay, or are not put, in every ending, and of those that stay in some."""
    always = []
    sometimes = []
    rows = [facts for facts, _ in endings(setup, script)]
    for tag in sorted(tags(script)):
        found = [fate_of(facts, tag) for facts in rows]
        if all([fate in (STAYS, NOT_PUT) for fate in found]):
            always.append(tag)
        if STAYS in found:
            sometimes.append(tag)
    return (always, sometimes)


def expect_tags(script, names):
    """Refuse the first of these names that is the tag of no request."""
    known = tags(script)
    for name in names:
        if name not in known:
            raise NoTag(name)


def endings(setup, script):
    """The pairs of the facts of each closed history of the script and its CHOICES, ascending by these."""
    return [(Facts(setup, history), choices) for history, choices in closed_histories(setup, script)]


def fate_of(facts, tag):
    """The FATE of this tag in the history with these facts."""
    if tag in facts.ends:
        return facts.ends[tag]
    return STAYS if tag in facts.asked else NOT_PUT
