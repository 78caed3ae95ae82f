"""A ring: requests that are put, the steps that are possible, and what the user is told."""

from endonce.ahead import Ahead, twin_ahead
from endonce.data import is_event
from endonce.errors import BadPair, NoStep, NotQuiet
from endonce.events import do_event, unended_triples
from endonce.moves import possible_in
from endonce.state import State, twin_of
from endonce.steps import do_step
from endonce.tuples import in_tuples


class Ring:
    """A ring of a SETUP; what it does with its requests are the STEPs that are asked for."""

    def __init__(self, setup):
        self._setup = in_tuples(setup)
        self._ahead = Ahead()
        self._state = State(self._setup)
        self._pairs = []
        # The STEPs and ("user", index), in the order in which they were done.
        self._done = []

    def __eq__(self, other):
        return (isinstance(other, Ring) and self._setup == other._setup
                and self._pairs == other._pairs and self._done == other._done)

    def put(self, lot):
        """Put the requests of a LOT."""
        return self.do(("put", lot))

    def reap(self, most):
        """Reap completions, so many at most."""
        return self.do(("reap", most))

    def clock(self, time):
        """Set the clock."""
        return self.do(("clock", time))

    def give(self, pipe, text):
        """Give a text to a pipe."""
        return self.do(("give", pipe, text))

    def take(self, pipe, many):
        """Take letters of a pipe, so many at most."""
        return self.do(("take", pipe, many))

    def lend(self, many):
        """Lend so many more buffers."""
        return self.do(("lend", many))

    def quiet(self):
        """Ask which requests have not ended; no step may be possible."""
        return self.do(("quiet",))

    def stop(self):
        """Stop the ring."""
        return self.do(("stop",))

    def do(self, event):
        """Do a user event, and return what it is told."""
        event = in_tuples(event)
        at = len(self._pairs)
        if not is_event(self._setup, self._ahead, event):
            raise BadPair(at)
        if event[0] == "quiet" and len(self.possible()) > 0:
            raise NotQuiet(self.possible())
        told = do_event(self._state, event, at)
        self._ahead.note_event(event)
        self._pairs.append((event, told))
        self._done.append(("user", at))
        return told

    def possible(self):
        """The STEPs that are possible now."""
        return possible_in(self._state)

    def step(self, index):
        """Do the STEP with this index in possible()."""
        steps = self.possible()
        if index < 0 or index >= len(steps):
            raise NoStep(index)
        do_step(self._state, steps[index])
        self._done.append(steps[index])
        return steps[index]

    def history(self):
        """The HISTORY so far."""
        return tuple(self._pairs)

    def unended(self):
        """The triples of the requests that have not ended."""
        return unended_triples(self._state)

    def twin(self):
        """A Ring in the same state that shares nothing with this one."""
        ring = Ring(self._setup)
        ring._ahead = twin_ahead(self._ahead)
        ring._state = twin_of(self._state)
        ring._pairs = list(self._pairs)
        ring._done = list(self._done)
        return ring

    def letters(self, pipe):
        """The place of the next letter that will be taken, and the text that is there."""
        return (self._state.passed[pipe], self._state.there[pipe])

    def turn(self, slot):
        """The number of the slot's turn, and its pipe or None."""
        pipes = self._state.turns[slot]
        return (len(pipes) - 1, pipes[-1])

    def holders(self, slot, number):
        """The tags of those that looked at this turn and have not ended."""
        return sorted(self._state.holders_of(slot, number))

    def buffers(self):
        """How many buffers are used, and how many were lent."""
        return (self._state.used, self._state.lent)

    def outstanding(self):
        """How many completions are outstanding."""
        return len(self._state.posted)
