"""The judge: whether a closed history is possible, and in which order its steps can be done."""

from endonce.errors import NoStep, NotPossible
from endonce.facts import closed_facts
from endonce.follow import choices_along
from endonce.graph import in_order, nexts_of, reached_from, shortest_ring
from endonce.must import triples_of
from endonce.nodes import names_of
from endonce.sums import misfit_of
from endonce.tuples import in_tuples


def judge(setup, history):
    """None if a closed HISTORY is possible, otherwise why it is not."""
    return reason_against(closed_facts(setup, history))


def reason_against(facts):
    """Why a closed history with these facts is not possible; None if it is."""
    misfit = misfit_of(facts)
    if misfit is not None:
        return ("numbers", *misfit)
    names = names_of(facts)
    ring = shortest_ring(nodes_in(names), triples_of(facts, names))
    return None if ring is None else ("ring", ring)


def nodes_in(names):
    """The nodes with these names by their steps, ascending."""
    return sorted({name: True for name in names.values()})


def possible_facts(setup, history):
    """The facts of a closed HISTORY that is possible."""
    facts = closed_facts(setup, history)
    reason = reason_against(facts)
    if reason is not None:
        raise NotPossible(reason)
    return facts


def order(setup, history):
    """The names of all nodes in the order in which always the least one that can be next is done."""
    return order_of(possible_facts(setup, history))


def order_of(facts):
    """This order, of the facts of a possible history."""
    names = names_of(facts)
    return in_order(nodes_in(names), triples_of(facts, names))


def before(setup, history, one, other):
    """Whether the one step must come before the other."""
    facts = possible_facts(setup, history)
    names = names_of(facts)
    for step in (in_tuples(one), in_tuples(other)):
        if step not in names:
            raise NoStep(step)
    first = names[in_tuples(one)]
    last = names[in_tuples(other)]
    return first != last and last in reached_from([first], nexts_of(triples_of(facts, names)))


def choices_of(setup, history):
    """The CHOICES with which a run does the nodes in the order that order tells."""
    facts = possible_facts(setup, history)
    return choices_along(setup, facts, order_of(facts))
