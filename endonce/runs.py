"""Runs: what a ring does with a script, by choices; all closed histories of a script; how many runs give a history."""

from endonce.choices import chosen
from endonce.data import is_closed
from endonce.errors import NotClosed, TooMany
from endonce.facts import Facts
from endonce.follow import least_choices
from endonce.graph import ahead_of, in_order
from endonce.judge import nodes_in, reason_against
from endonce.limits import MOST_HISTORIES, MOST_SETS
from endonce.must import triples_of
from endonce.nodes import names_of
from endonce.ring import Ring
from endonce.search import Search
from endonce.tuples import in_tuples


def run(setup, script, choices=()):
    """The HISTORY of the run of a SCRIPT with these CHOICES."""
    ring, _ = done_by(setup, script, choices)
    return ring.history()


def steps_of(setup, script, choices=()):
    """All that is done in this run: STEPs, and ("user", index) for the user events."""
    _, done = done_by(setup, script, choices)
    return done


def done_by(setup, script, choices):
    """The Ring with which this run ends, and all that was done."""
    ring = Ring(setup)
    done = []
    left = list(choices)
    for at, event in enumerate(script):
        while True:
            choice = left.pop(0) if len(left) > 0 else 0
            index = chosen(choice, event, ring.possible())
            if index is None:
                break
            done.append(ring.step(index))
        ring.do(event)
        done.append(("user", at))
    return ring, done


def closed(script):
    """The SCRIPT with a quiet behind it."""
    return (*in_tuples(script), ("quiet",))


def closed_histories(setup, script):
    """The pairs of each closed history of a SCRIPT and the least CHOICES that give it, ascending by these."""
    setup = in_tuples(setup)
    search = Search(setup, closed(script))
    found = []
    history = search.next_history()
    while history is not None:
        if len(found) == MOST_HISTORIES:
            raise TooMany(MOST_HISTORIES)
        found.append(history)
        history = search.next_history()
    rows = [(history, least_choices_of(setup, history)) for history in found]
    return sorted(rows, key=lambda row: row[1])


def least_choices_of(setup, history):
    """The least CHOICES that give this history, which is possible."""
    facts = Facts(setup, history)
    return least_choices(setup, facts, triples_of(facts, names_of(facts)))


def runs_many(setup, history):
    """How many runs give just this closed HISTORY."""
    if not is_closed(history):
        raise NotClosed()
    facts = Facts(setup, history)
    if reason_against(facts) is not None:
        return 0
    names = names_of(facts)
    triples = triples_of(facts, names)
    nodes = in_order(nodes_in(names), triples)
    return many_orders(needed_bits(nodes, ahead_of(triples)))


def needed_bits(nodes, ahead):
    """For each node the bits of those that lead to it straight; the node with the number n has the bit 1 << n."""
    bits = {name: 1 << number for number, name in enumerate(nodes)}
    return [sum([bits[other] for other in ahead.get(name, {})]) for name in nodes]


def many_orders(needed):
    """In how many orders nodes can be done, each of which needs those with these bits ahead of it."""
    # By the sets that were done, as bits, in how many orders they can be; one node more at a time.
    orders = {0: 1}
    many = 1
    for _ in needed:
        further = {}
        for done, ways in orders.items():
            for number, bits in enumerate(needed):
                bit = 1 << number
                if done & bit == 0 and done & bits == bits:
                    further[done | bit] = further.get(done | bit, 0) + ways
        orders = further
        many += len(orders)
        if many > MOST_SETS:
            raise TooMany(MOST_SETS)
    return sum(list(orders.values()))
