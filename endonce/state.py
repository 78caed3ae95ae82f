"""The state of a ring: what its requests, pipes, slots, buffers and its queue are at a moment."""

from endonce.requests import where_of


class State:
    """The state of a ring before any event."""

    def __init__(self, setup):
        self.space, self.room, pipes, slots = setup
        # By tags, those that were put alone: each request in the order in which they were put, True for those
        # that have begun, the results of those that have ended, the turns looked at, the numbers of fires.
        self.asked = {}
        self.begun = {}
        self.ended = {}
        self.looked = {}
        self.fired = {}
        # By pipes: the text that is there, the place of its first letter, the tag of the request that shut it.
        self.there = {pipe: "" for pipe in pipes}
        self.passed = {pipe: 0 for pipe in pipes}
        self.shutter = {}
        # The pipes of the turns of each slot; (slot, turn) of the notices.
        self.turns = [[entry] for entry in slots]
        self.freed = {}
        self.lent = 0
        self.used = 0
        self.time = 0
        self.stopped = False
        # The tags of those that ended in this step or event, of which nothing was told yet.
        self.fresh = []
        # What was told and is not posted: pairs of the STEP of its post and (name, result, turn, more).
        self.unposted = []
        # The outstanding COMPLETIONs.
        self.posted = []

    def unended(self):
        """The requests that have not ended, in the order in which they were put."""
        return [one for one in self.asked.values() if one.tag not in self.ended]

    def pipe_of(self, tag):
        """The pipe of a request that has begun and has a where."""
        kind, place = where_of(self.asked[tag].deed)
        return place if kind == "pipe" else self.turns[place][self.looked[tag]]

    def holders_of(self, slot, number):
        """The tags of those that hold this turn."""
        where = ("slot", slot)
        rows = [one for one in self.unended() if where_of(one.deed) == where]
        return [one.tag for one in rows if self.looked.get(one.tag) == number]


def twin_of(state):
    """A state equal to this one that shares nothing with it that changes."""
    twin = State((state.space, state.room, (), ()))
    twin.asked = dict(state.asked)
    twin.begun = dict(state.begun)
    twin.ended = dict(state.ended)
    twin.looked = dict(state.looked)
    twin.fired = dict(state.fired)
    twin.there = dict(state.there)
    twin.passed = dict(state.passed)
    twin.shutter = dict(state.shutter)
    twin.turns = [list(pipes) for pipes in state.turns]
    twin.freed = {key: True for key in state.freed}
    twin.lent = state.lent
    twin.used = state.used
    twin.time = state.time
    twin.stopped = state.stopped
    twin.unposted = list(state.unposted)
    twin.posted = list(state.posted)
    return twin
