"""Which steps were needed for the end of a request."""

from endonce.errors import NoStep
from endonce.graph import nexts_of, reached_from
from endonce.must import needs_of
from endonce.nodes import fitting_facts, names_of


def because(setup, history, tag):
    """The steps of all nodes that were needed for the end of this request, and of its own node."""
    facts = fitting_facts(setup, history)
    if tag not in facts.ends:
        raise NoStep(("end", tag))
    names = names_of(facts)
    # From the end backwards, so each need is turned around.
    nexts = nexts_of([(other, kind, node) for node, kind, other in needs_of(facts, names)])
    needed = reached_from([names[("end", tag)]], nexts)
    return sorted([step for step, name in names.items() if name in needed])
