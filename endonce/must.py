"""What must come before what in a closed history whose numbers fit."""

from endonce.end_bonds import cancel_bonds, late_bonds, stop_bonds, time_bonds
from endonce.nodes import fitting_facts, names_of
from endonce.pipe_bonds import lending_bonds, lent_bonds, letter_bonds, short_bonds, shut_bonds, shutting_bonds
from endonce.pipe_bonds import taken_bonds
from endonce.queue_bonds import busy_bonds, free_bonds, post_bonds, reap_bonds, space_bonds, user_bonds
from endonce.quiet_bonds import quiet_bonds
from endonce.request_bonds import begun_bonds, breaks_bonds, chain_bonds, drain_bonds, next_turn_bonds, off_bonds
from endonce.request_bonds import put_bonds, turn_bonds


def must(setup, history):
    """All triples (node, kind, node) such that the one node must come before the other, for this kind of reason."""
    facts = fitting_facts(setup, history)
    return triples_of(facts, names_of(facts))


def triples_of(facts, names):
    """The triples of these facts; names has the names of the nodes by their steps."""
    return named(need_rows(facts) + other_rows(facts), names)


def needs_of(facts, names):
    """Those of the triples that are needs."""
    return named(need_rows(facts), names)


def named(rows, names):
    """These triples of steps as an ascending list of triples of nodes, without those that do not hold."""
    triples = {}
    for step, kind, other in rows:
        if step in names and other in names and names[step] != names[other]:
            triples[(names[step], kind, names[other])] = True
    return sorted(triples)


def need_rows(facts):
    """The triples of steps without the first of which the second could not happen so."""
    rows = put_bonds(facts) + begun_bonds(facts) + chain_bonds(facts) + breaks_bonds(facts) + drain_bonds(facts)
    rows += off_bonds(facts) + turn_bonds(facts) + time_bonds(facts) + cancel_bonds(facts) + stop_bonds(facts)
    return rows + letter_bonds(facts) + taken_bonds(facts) + shut_bonds(facts) + lent_bonds(facts)


def other_rows(facts):
    """The triples of steps that only forbid that the second comes first."""
    rows = user_bonds(facts) + short_bonds(facts) + next_turn_bonds(facts) + shutting_bonds(facts)
    rows += lending_bonds(facts) + late_bonds(facts) + free_bonds(facts) + post_bonds(facts)
    return rows + reap_bonds(facts) + space_bonds(facts) + busy_bonds(facts) + quiet_bonds(facts)
