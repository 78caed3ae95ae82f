"""What each EVENT of a HISTORY can be told."""

from endonce.forms import has_parts, word_of
from endonce.kinds import ascends, is_letters, is_number, is_row, is_truth
from endonce.requests import has_slot
from endonce.results import is_completion, is_turn

GIVEN = {"given": ("from 0",), "shut": ("name",)}


def is_told_of_give(setup, told):
    """Whether a give can be told this."""
    word = word_of(told)
    return word in GIVEN and has_parts(setup, told, GIVEN[word])


def is_told_of_take(told):
    """Whether a take can be told this."""
    return is_row(told, 2) and is_number(told[0], 0) and is_letters(told[1], 0)


def is_told_of_reap(setup, ahead, told):
    """Whether a reap can be told this."""
    if not isinstance(told, tuple):
        return False
    fit = all([is_completion(setup, ahead.requests, completion) for completion in told])
    return fit and ahead.allows_ends(told)


def is_unended(ahead, thing):
    """Whether thing is a triple of a quiet: of a request that was put ahead."""
    if not is_row(thing, 3):
        return False
    tag, begun, turn = thing
    if not isinstance(tag, str) or tag not in ahead.requests or not is_truth(begun):
        return False
    return is_turn(turn, begun and has_slot(ahead.requests[tag][1]))


def is_told_of_quiet(ahead, told):
    """Whether a quiet can be told this."""
    if not isinstance(told, tuple) or not all([is_unended(ahead, triple) for triple in told]):
        return False
    return ascends([tag for tag, _, _ in told])


def is_told(setup, ahead, event, told):
    """Whether this EVENT, behind what stands ahead, can be told this."""
    word = event[0]
    if word == "put":
        return told in (None, "busy", "stopped")
    if word == "give":
        return is_told_of_give(setup, told)
    if word == "take":
        return is_told_of_take(told)
    if word == "reap":
        return is_told_of_reap(setup, ahead, told)
    if word == "quiet":
        return is_told_of_quiet(ahead, told)
    return told is None
