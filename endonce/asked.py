"""Requests that were put, with their places: in the order of all, in a chain, beside a linktimeout."""

from endonce.data import chains

# The deeds that end where they begin.
AT_ONCE = ("nop", "shut", "update", "cancel", "cancelall")


class Asked:
    """A request that was put, and how it is bound to others of its lot; once put it never changes."""

    def __init__(self, number, at, request):
        self.number = number
        self.at = at
        self.tag, self.deed, self.flags = request
        # The tags of its chain, none of a linktimeout.
        self.chain = ()
        # Its place in the chain.
        self.rank = 0
        # The tag of its linktimeout, or None.
        self.timer = None
        # Of a linktimeout the tag of the request to which it belongs, otherwise None.
        self.owner = None

    def join_chain(self, chain, rank, timer):
        """Note its chain, its place there, and its linktimeout."""
        self.chain = chain
        self.rank = rank
        self.timer = timer

    def belong_to(self, owner):
        """Note the request to which this linktimeout belongs."""
        self.owner = owner

    def members_ahead(self):
        """The tags of the members of its chain ahead of it."""
        return self.chain[:self.rank]

    def members_behind(self):
        """The tags of the members of its chain behind it."""
        return self.chain[self.rank + 1:]


def asked_in(lot, at, first):
    """The requests of the lot of the event number at, by their tags; the first one has the number first."""
    rows = [Asked(first + place, at, request) for place, request in enumerate(lot)]
    asked = {row.tag: row for row in rows}
    for chain in chains(lot):
        members = tuple([tag for tag, _ in chain])
        for rank, (tag, timer) in enumerate(chain):
            asked[tag].join_chain(members, rank, timer)
            if timer is not None:
                asked[timer].belong_to(tag)
    return asked


def is_bad(deed, result):
    """Whether an end of this deed with this result is bad."""
    if deed[0] == "read" and result[0] in ("text", "picked"):
        return len(result[3]) < deed[2]
    return result[0] in (
        "bad", "bare", "end", "no buffer", "broken pipe", "shut already", "none", "late", "gone", "cancelled",
        "stopped", "broken")


def breaks(one, result, begun):
    """Whether this end of a member breaks its chain; begun tells whether the member had begun."""
    return is_bad(one.deed, result) and not (begun and "hard" in one.flags)
