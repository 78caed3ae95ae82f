"""Requests of a lot: their deeds, their flags, and where in the lot they may stand."""

from endonce.forms import has_parts, word_of
from endonce.kinds import ascends, is_name, is_row

DEEDS = {
    "nop": (),
    "work": ("good",),
    "read": ("where", "from 1"),
    "reads": ("where", "from 1"),
    "write": ("where", "text"),
    "shut": ("where",),
    "timeout": ("from 0",),
    "linktimeout": ("from 0",),
    "cancel": ("name",),
    "cancelall": (),
    "update": ("slot", "pipe or none"),
}


def is_deed(setup, thing):
    """Whether thing is a DEED, with pipes and slots of the SETUP."""
    word = word_of(thing)
    return word in DEEDS and has_parts(setup, thing, DEEDS[word])


def where_of(deed):
    """The where that this deed names; None if it names none."""
    return deed[1] if deed[0] in ("read", "reads", "write", "shut") else None


def has_slot(deed):
    """Whether the deed has a where that is a slot."""
    where = where_of(deed)
    return where is not None and where[0] == "slot"


def may_have(deed, flag):
    """Whether a request with this deed can have this flag, if it stands at the right place."""
    if deed[0] == "linktimeout":
        return False
    if flag == "silent":
        return deed in (("nop",), ("work", True))
    if flag == "pick":
        return deed[0] in ("read", "reads")
    return flag in ("drain", "hard", "link")


def are_flags(deed, thing):
    """Whether thing is a tuple of flags that a request with this deed can have."""
    if not isinstance(thing, tuple) or not all([may_have(deed, flag) for flag in thing]):
        return False
    return ascends(thing) and not ("hard" in thing and "link" in thing)


def is_request(setup, thing):
    """Whether thing is a REQUEST, apart from its place in a lot."""
    if not is_row(thing, 3):
        return False
    tag, deed, flags = thing
    return is_name(tag) and is_deed(setup, deed) and are_flags(deed, flags)


def is_linktimeout(request):
    """Whether this is a linktimeout, which stands in no chain."""
    return request[1][0] == "linktimeout"


def binds(request):
    """Whether the next request that is no linktimeout stands in the chain of this one."""
    return "link" in request[2] or "hard" in request[2]


def begins_chain(lot, at):
    """Whether the request at this place of the lot, no linktimeout, is the first of its chain."""
    ahead = [request for request in lot[:at] if not is_linktimeout(request)]
    return len(ahead) == 0 or not binds(ahead[-1])


def stands_well(lot, at):
    """Whether the request at this place of the lot may stand there."""
    request = lot[at]
    if is_linktimeout(request):
        # A linktimeout never binds, so what binds directly ahead is a member of a chain.
        return at > 0 and binds(lot[at - 1])
    if binds(request) and at == len(lot) - 1:
        return False
    return "drain" not in request[2] or begins_chain(lot, at)
