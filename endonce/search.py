"""The search through all runs of a script for what its events can be told.

Of runs that differ only in the order of steps that do not touch each other, one alone is looked at: posts are done
only where the next event can tell of them, and a step that nothing else can touch is done at once.
"""

from endonce.events import do_event
from endonce.moves import possible_in
from endonce.scope import Scope
from endonce.state import State, twin_of
from endonce.steps import do_step

LAST = ("reap", 9)


class Spot:
    """A moment of a run: its state, how many events are done, and the number of what these were told."""

    def __init__(self, state, at, telling, posting):
        self.state = state
        self.at = at
        self.telling = telling
        # Whether the posts ahead of the next event have begun, so that no other steps come ahead of it.
        self.posting = posting

    def key(self):
        """What tells this moment from all that go on in another way."""
        state = self.state
        rows = [(tag in state.begun, tag in state.ended, state.looked.get(tag), state.fired.get(tag, 0))
                for tag in state.asked]
        pipes = [(state.there[pipe], state.passed[pipe], state.shutter.get(pipe)) for pipe in state.there]
        turns = [tuple(row) for row in state.turns]
        return (self.at, self.telling, self.posting, tuple(rows), tuple(pipes), tuple(turns), state.used,
                tuple(sorted(state.unposted)), tuple(state.posted))


class Search:
    """All that the events of a script, which ends with a quiet, can be told, with the reaps behind them, each once."""

    def __init__(self, setup, script):
        self.script = script
        self.scope = Scope(setup, script)
        # Tellings are numbered: of each the number of the one ahead of it and what its last event was told.
        self.tellings = [(0, None)]
        self.numbers = {}
        self.seen = {}
        self.left = [Spot(State(setup), 0, 0, False)]

    def next_telling(self, number, told):
        """The number of the telling that goes on with this behind the one with the number."""
        key = (number, told)
        if key not in self.numbers:
            self.numbers[key] = len(self.tellings)
            self.tellings.append(key)
        return self.numbers[key]

    def next_history(self):
        """The history of another run; None if there is none left."""
        while len(self.left) > 0:
            spot = self.left.pop()
            if spot.at == len(self.script):
                return self.history_of(spot)
            spots = self.nexts_of(spot)
            for other in reversed(spots):
                key = other.key()
                if key not in self.seen:
                    self.seen[key] = True
                    self.left.append(other)
        return None

    def history_of(self, spot):
        """The history of a run that ends here, with the reaps behind it."""
        told = []
        number = spot.telling
        while number > 0:
            number, last = self.tellings[number]
            told.append(last)
        pairs = list(zip(self.script, told[::-1]))
        # The script ends with a quiet, so one reap at least follows.
        while pairs[-1] != (LAST, ()):
            pairs.append((LAST, do_event(spot.state, LAST, len(pairs))))
        return tuple(pairs)

    def nexts_of(self, spot):
        """The moments behind this one."""
        steps = possible_in(spot.state)
        posts = [step for step in steps if step[0] in ("post", "note")]
        others = [] if spot.posting else steps[:len(steps) - len(posts)]
        for step in others:
            if self.scope.is_alone(spot.state, spot.at, step):
                return [self.behind_step(spot, step, False)]
        spots = [self.behind_step(spot, step, False) for step in others]
        event = self.script[spot.at]
        if event[0] == "quiet" and len(others) > 0:
            return spots
        if needs_posts(spot.state, event):
            spots += [self.behind_step(spot, step, True) for step in posts]
        if event[0] == "quiet" and len(posts) > 0:
            return spots
        return [self.behind_event(spot, event), *spots]

    def behind_step(self, spot, step, posting):
        """The moment behind this one at which the STEP was done."""
        state = twin_of(spot.state)
        do_step(state, step)
        return Spot(state, spot.at, spot.telling, posting)

    def behind_event(self, spot, event):
        """The moment behind this one at which the event was done."""
        state = twin_of(spot.state)
        told = do_event(state, event, spot.at)
        return Spot(state, spot.at + 1, self.next_telling(spot.telling, told), False)


def needs_posts(state, event):
    """Whether what this event is told may depend on what is posted ahead of it and is not yet."""
    if event[0] == "put":
        return len(state.posted) <= state.space < len(state.posted) + len(state.unposted)
    return event[0] in ("reap", "quiet")
