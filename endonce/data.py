"""SETUPs, LOTs, SCRIPTs and HISTORYs: which values are such, and what can be read off them."""

from endonce.ahead import Ahead
from endonce.forms import has_parts, word_of
from endonce.kinds import are_names, is_number, is_row
from endonce.requests import binds, is_linktimeout, is_request, stands_well
from endonce.told import is_told
from endonce.tuples import in_tuples

EVENTS = {
    "reap": ("from 1",),
    "clock": ("from 1",),
    "give": ("pipe", "text"),
    "take": ("pipe", "from 1"),
    "lend": ("from 1",),
    "quiet": (),
    "stop": (),
}


def is_setup(thing):
    """Whether thing is a SETUP."""
    if not is_row(thing, 4):
        return False
    space, room, pipes, slots = thing
    if not is_number(space, 1) or not is_number(room, 1) or not are_names(pipes):
        return False
    return isinstance(slots, tuple) and all([entry is None or entry in pipes for entry in slots])


def is_lot(setup, thing):
    """Whether thing is a LOT, with pipes and slots of the SETUP; a cancel may name any tag."""
    if not isinstance(thing, tuple) or len(thing) == 0:
        return False
    if not all([is_request(setup, request) for request in thing]):
        return False
    names = [tag for tag, _, _ in thing]
    return len(set(names)) == len(names) and all([stands_well(thing, at) for at in range(len(thing))])


def is_event(setup, ahead, thing):
    """Whether thing is an EVENT, with pipes and slots of the SETUP, that can stand behind what is ahead."""
    word = word_of(thing)
    if word == "put":
        return len(thing) == 2 and is_lot(setup, thing[1]) and ahead.allows(thing)
    return word in EVENTS and has_parts(setup, thing, EVENTS[word]) and ahead.allows(thing)


def is_script(setup, thing):
    """Whether thing is a SCRIPT, with pipes and slots of the SETUP."""
    if not isinstance(thing, tuple):
        return False
    ahead = Ahead()
    for event in thing:
        if not is_event(setup, ahead, event):
            return False
        ahead.note_event(event)
    return True


def is_pair(setup, ahead, thing):
    """Whether thing is a pair of an EVENT and what it can be told, behind what is ahead."""
    return is_row(thing, 2) and is_event(setup, ahead, thing[0]) and is_told(setup, ahead, thing[0], thing[1])


def is_history(setup, thing):
    """Whether thing is a HISTORY; its numbers need not fit, nor need it be possible."""
    if not isinstance(thing, tuple):
        return False
    ahead = Ahead()
    for pair in thing:
        if not is_pair(setup, ahead, pair):
            return False
        event, told = pair
        ahead.note_event(event)
        ahead.note_told(event, told)
    return True


def chains(lot):
    """The chains of a LOT: of each the pairs of a member's tag and its linktimeout's, or None."""
    rows = []
    chain = []
    for request in lot:
        if is_linktimeout(request):
            owner, _ = chain[-1]
            chain[-1] = (owner, request[0])
            continue
        chain.append((request[0], None))
        if not binds(request):
            rows.append(tuple(chain))
            chain = []
    # The last chain is still open if its last member binds only because of its linktimeout.
    if len(chain) > 0:
        rows.append(tuple(chain))
    return rows


def tags(script):
    """The tags of all requests of a SCRIPT, in order."""
    lots = [event[1] for event in script if event[0] == "put"]
    return tuple([request[0] for lot in lots for request in lot])


def script_of(history):
    """The SCRIPT of a HISTORY."""
    return tuple([in_tuples(event) for event, _ in history])


def is_closed(history):
    """Whether a HISTORY ends with a quiet and reaps behind it, the last of which alone tells nothing."""
    at = len(history) - 1
    if at < 0 or not is_empty_reap(history[at]):
        return False
    at -= 1
    while at >= 0 and history[at][0][0] == "reap" and not is_empty_reap(history[at]):
        at -= 1
    return at >= 0 and history[at][0][0] == "quiet"


def closed_many(history):
    """How many pairs the longest beginning of a HISTORY has that is closed; 0 if there is none."""
    many = len(history)
    while many > 0 and not is_closed(history[:many]):
        many -= 1
    return many


def is_empty_reap(pair):
    """Whether this is the pair of a reap that tells nothing."""
    event, told = pair
    return event[0] == "reap" and len(told) == 0
