"""Sums: whether everything that a closed history tells fits together, whatever the order of the steps."""

from endonce.begin_rows import bad_begins, bad_slots
from endonce.by_rows import bad_by
from endonce.chain_rows import bad_ahead, bad_chains
from endonce.facts import closed_facts
from endonce.pipe_rows import bad_buffers, bad_freed, bad_letters
from endonce.queue_rows import bad_ends, bad_kept, bad_reaps, bad_stops, bad_times
from endonce.quiet_rows import bad_quiets


def sums(setup, history):
    """None if the numbers of a closed HISTORY fit, otherwise the word of the first row that does not hold, and what."""
    return misfit_of(closed_facts(setup, history))


def misfit_of(facts):
    """What sums tells of these facts."""
    rows = (
        ("reap", bad_reaps), ("kept", bad_kept), ("stop", bad_stops), ("end", bad_ends), ("begin", bad_begins),
        ("slot", bad_slots), ("by", bad_by), ("chain", bad_chains), ("letters", bad_letters), ("ahead", bad_ahead),
        ("freed", bad_freed), ("buffer", bad_buffers), ("time", bad_times), ("quiet", bad_quiets))
    for word, row in rows:
        bad = row(facts)
        if len(bad) > 0:
            return (word, min(bad))
    return None
