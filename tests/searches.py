"""All runs of a script, one by one, by the methods of a Ring alone; and histories from their lines."""

from endonce.ring import Ring
from endonce.texts import history_in, setup_in


def closed_in(setup, *lines):
    """A SETUP and a closed HISTORY with these lines and a reap of nothing behind them."""
    setup = setup_in(setup)
    return setup, history_in(setup, "\n".join(lines) + "\nreap 9 -> -")


class TooLong(Exception):
    """There are more runs than were asked for."""


class AllRuns:
    """Each run of the script with a quiet behind it, by ascending CHOICES, with all that is done in it."""

    def __init__(self, setup, script, most):
        self.script = tuple(script) + (("quiet",),)
        self.most = most
        self.many = 0
        # By the closed histories: the least CHOICES, and the orders of all that is done.
        self.least = {}
        self.orders = {}
        self.go_on(Ring(setup), 0, [], [])

    def go_on(self, ring, at, choices, done):
        if at == len(self.script):
            self.note(ring, at, choices, done)
            return
        steps = ring.possible()
        event = self.script[at]
        waits = event == ("quiet",) and steps
        if not waits:
            twin = ring.twin()
            twin.do(event)
            self.go_on(twin, at + 1, choices + [0], done + [("user", at)])
        for index in range(len(steps)):
            twin = ring.twin()
            step = twin.step(index)
            self.go_on(twin, at, choices + [0 if waits and index == 0 else index + 1], done + [step])

    def note(self, ring, at, choices, done):
        self.many += 1
        if self.many > self.most:
            raise TooLong()
        while True:
            told = ring.reap(9)
            done = done + [("user", at)]
            at += 1
            if not told:
                break
        while choices and choices[-1] == 0:
            choices = choices[:-1]
        self.least.setdefault(ring.history(), choices)
        self.orders.setdefault(ring.history(), []).append(done)


def named_posts(done):
    """The same STEPs, with ("post", number) for the posts and notes, in their order."""
    many = 0
    steps = []
    for step in done:
        if step[0] in ("post", "note"):
            step = ("post", many)
            many += 1
        steps.append(step)
    return steps


def always_before(orders):
    """The pairs of steps such that the one comes before the other in each of these orders."""
    places = [{step: at for at, step in enumerate(named_posts(done))} for done in orders]
    steps = list(places[0])
    return {(one, other) for one in steps for other in steps if all(place[one] < place[other] for place in places)}
