"""Completions: the results that a request can have, and what is told with them."""

from endonce.forms import has_parts, is_slot, word_of
from endonce.kinds import is_number, is_row, is_truth
from endonce.requests import has_slot, where_of

RESULTS = {
    "nop": ("done",),
    "work": ("done", "bad"),
    "read": ("text", "picked", "no buffer", "end", "bare"),
    "reads": ("text", "picked", "no buffer", "end", "bare"),
    "write": ("wrote", "broken pipe", "bare"),
    "shut": ("done", "shut already", "bare"),
    "timeout": ("time",),
    "linktimeout": ("time", "late", "off"),
    "cancel": ("took", "late", "gone", "none"),
    "cancelall": ("all",),
    "update": ("turn",),
}
PARTS = {
    "done": (),
    "bad": (),
    "text": ("pipe", "from 0", "letters"),
    "picked": ("pipe", "from 0", "letters", "from 0"),
    "no buffer": ("pipe", "from 0", "from 0"),
    "end": ("pipe", "from 0", "name"),
    "bare": (),
    "wrote": ("pipe", "from 0"),
    "broken pipe": ("pipe", "name"),
    "shut already": ("name",),
    "time": (),
    "late": (),
    "off": (),
    "took": ("truth",),
    "gone": (),
    "none": (),
    "all": ("taken", "names"),
    "turn": ("from 0",),
    "cancelled": ("name", "truth"),
    "stopped": ("truth",),
    "broken": ("name",),
    "freed": ("from 0",),
}


def is_word_of(deed, word):
    """Whether results of requests with such a deed can begin with this word."""
    if word in RESULTS[deed[0]] or word == "cancelled":
        return True
    return word in ("stopped", "broken") and deed[0] != "linktimeout"


def is_word_told(request, word):
    """Whether this word of its deed's can be told of this very request."""
    _, deed, flags = request
    if word == "bad":
        return deed == ("work", False)
    if word == "done":
        return deed != ("work", False) and "silent" not in flags
    if word == "text":
        return "pick" not in flags
    if word in ("picked", "no buffer"):
        return "pick" in flags
    return word != "bare" or has_slot(deed)


def with_pipe_of(setup, deed):
    """The SETUP with the pipes alone that the results of this deed can name."""
    where = where_of(deed)
    pipes = setup[2] if where is None or where[0] == "slot" else (where[1],)
    return (setup[0], setup[1], pipes, setup[3])


def is_result(setup, request, thing):
    """Whether thing is a result that can be told of this request."""
    word = word_of(thing)
    deed = request[1]
    if not is_word_of(deed, word) or not is_word_told(request, word):
        return False
    return has_parts(with_pipe_of(setup, deed), thing, PARTS[word])


def is_turn(thing, looked):
    """Whether thing can be told as the turn of a request that looked at one, or at none."""
    return is_number(thing, 0) if looked else thing is None


def has_looked(deed, result):
    """Whether a request with this deed and this result has looked at a turn of its slot."""
    if not has_slot(deed) or result[0] == "broken":
        return False
    return result[0] not in ("cancelled", "stopped") or result[-1]


def goes_on(deed, result):
    """Whether a request with this deed goes on behind this result."""
    return deed[0] == "reads" and result[0] in ("text", "picked")


def is_of_request(setup, request, completion):
    """Whether this tuple of five is a COMPLETION that can be told of this request."""
    _, result, turn, more, _ = completion
    if not is_result(setup, request, result) or not is_turn(turn, has_looked(request[1], result)):
        return False
    return is_truth(more) and more == goes_on(request[1], result)


def is_notice(setup, completion):
    """Whether this tuple of five is the COMPLETION of a notice."""
    slot, result, turn, more, _ = completion
    if not is_slot(setup, slot) or not is_row(result, 2):
        return False
    return result[0] == "freed" and is_number(result[1], 0) and turn is None and more is False


def is_completion(setup, put, thing):
    """Whether thing is a COMPLETION; put has, by their tags, the requests that were put ahead."""
    if not is_row(thing, 5) or not is_truth(thing[4]):
        return False
    name = thing[0]
    if isinstance(name, str):
        return name in put and is_of_request(setup, put[name], thing)
    return is_notice(setup, thing)


def key_of(completion):
    """What can end but once: the request's tag, or of a notice the slot and the turn."""
    name = completion[0]
    return name if isinstance(name, str) else (name, completion[1][1])
