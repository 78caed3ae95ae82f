"""What the requests and events of a script may touch: which steps can be done at once, as nothing else can touch them.

Each thing that can be touched is a bit of a number: requests, pipes, slots, and all buffers as one.
"""

from endonce.asked import AT_ONCE, asked_in
from endonce.requests import has_slot, where_of

# The deeds whose own ends are never bad.
GOOD = (("nop",), ("work", True))


class Scope:
    """What all requests of a script may touch, whether their puts are told a word or not."""

    def __init__(self, setup, script):
        self.many = 0
        self.asked = {}
        for at, event in enumerate(script):
            if event[0] == "put":
                for tag, one in asked_in(event[1], at, len(self.asked)).items():
                    self.asked[tag] = one
        self.tags = {tag: self.new_bit() for tag in self.asked}
        self.pipes = {pipe: self.new_bit() for pipe in setup[2]}
        self.slots = [self.new_bit() for _ in setup[3]]
        self.lending = self.new_bit()
        # By tags what a request may touch from now on.
        self.touched = {tag: self.touched_by(one) for tag, one in self.asked.items()}
        # By tags those that can do nothing ahead of the end of this one.
        self.waiting = {tag: self.waiting_for(one) for tag, one in self.asked.items()}
        # By events what this one and those behind it may touch, apart from what requests do.
        self.coming = [self.touched_from(script, at) for at in range(len(script) + 1)]

    def new_bit(self):
        """A bit that is not used yet."""
        self.many += 1
        return 1 << (self.many - 1)

    def bits_of(self, tags):
        """The bits of these requests."""
        return sum([self.tags[tag] for tag in tags])

    def ended_with(self, tag):
        """The tags of those that may end in the step in which this one ends."""
        one = self.asked[tag]
        members = [tag, *one.members_behind()]
        timers = [self.asked[member].timer for member in members]
        return members + [timer for timer in timers if timer is not None]

    def waiting_for(self, one):
        """The tags of those that can do nothing ahead of the end of this one."""
        first = (one.tag, one.timer)
        return {tag: True for tag in self.ended_with(one.tag) if tag not in first}

    def own_ends(self, one):
        """The bits of those that this request may end."""
        if one.owner is not None:
            return self.tags[one.tag] | self.bits_of(self.ended_with(one.owner))
        if one.deed in GOOD or one.deed[0] in ("timeout", "update"):
            return self.begun_bits(one)
        bits = self.bits_of(self.ended_with(one.tag))
        if one.deed[0] == "cancel":
            bits |= self.bits_of(self.ended_with(one.deed[1]))
        if one.deed[0] == "cancelall":
            bits |= self.bits_of([other.tag for other in self.asked.values() if other.number < one.number])
        return bits

    def begun_bits(self, one):
        """The bits of this request and its linktimeout."""
        return self.bits_of([tag for tag in (one.tag, one.timer) if tag is not None])

    def touched_by(self, one):
        """The bits of all that this request may touch."""
        bits = self.own_ends(one)
        where = where_of(one.deed)
        if where is not None and where[0] == "pipe":
            bits |= self.pipes[where[1]]
        elif where is not None:
            bits |= self.slots[where[1]] | sum(list(self.pipes.values()))
        if one.deed[0] == "update":
            bits |= self.slots[one.deed[1]]
        return bits | self.lending if "pick" in one.flags else bits

    def touched_from(self, script, at):
        """The bits of all that events from this one on may touch, apart from what requests do."""
        bits = 0
        for event in script[at:]:
            if event[0] in ("give", "take"):
                bits |= self.pipes[event[1]]
            elif event[0] == "lend":
                bits |= self.lending
            elif event[0] == "stop":
                bits |= self.bits_of(self.asked)
        return bits

    def touched_by_step(self, state, step):
        """The bits of all that this STEP may touch."""
        one = self.asked[step[1]]
        if step[0] != "begin" or one.deed[0] in AT_ONCE:
            return self.touched[one.tag]
        if not has_slot(one.deed):
            return self.begun_bits(one)
        slot = one.deed[1][1]
        if state.turns[slot][-1] is None:
            return self.touched[one.tag]
        return self.begun_bits(one) | self.slots[slot]

    def may_act(self, state, at, one):
        """Whether this request may still do something, by then or when it is put."""
        return one.tag not in state.ended and (one.tag in state.asked or one.at >= at)

    def is_alone(self, state, at, step):
        """Whether nothing that can happen ahead of this STEP touches what it touches."""
        if step[0] == "free":
            return True
        tag = step[1]
        timer = self.asked[tag].timer if step[0] == "begin" else None
        others = self.coming[at]
        for other, one in self.asked.items():
            if other not in (tag, timer) and other not in self.waiting[tag] and self.may_act(state, at, one):
                others |= self.touched[other]
        return self.touched_by_step(state, step) & others == 0
