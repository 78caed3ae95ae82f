"""Runs of made scripts: the same ones each time, of all kinds of events, requests and orders."""

from random import Random

from endonce.ring import Ring

NAMES = "abcdefghijklmnopqrstuvwxyz"


class Maker:
    """What makes a SETUP, a SCRIPT and a run; each seed gives others."""

    # How often a request binds the next one, and how many cancels there are among the deeds.
    bound = 0.5
    cancels = 2

    def __init__(self, seed, most=12):
        self.dice = Random(seed)
        self.most = most
        pipes = self.dice.choice((("p",), ("p", "q"), ()))
        slots = tuple(self.dice.choice((None, *pipes, *pipes)) for _ in range(self.dice.randrange(3)))
        self.setup = (self.dice.choice((1, 1, 2, 3)), self.dice.randint(1, 4), pipes, slots)
        self.names = self.dice.sample(NAMES, len(NAMES))
        self.tags = []
        self.time = 0

    def text(self):
        return "".join(self.dice.choice("ab") for _ in range(self.dice.randint(1, 3)))

    def where(self):
        return self.dice.choice([("pipe", pipe) for pipe in self.setup[2]] + [("slot", slot) for slot in range(len(self.setup[3]))])

    def deed(self):
        words = ["nop", "work", "timeout"] + (["cancel"] * self.cancels + ["cancelall"]) * bool(self.tags)
        words += ["update"] * bool(self.setup[3]) + ["read", "reads", "write", "read", "reads", "write", "shut"] * bool(self.setup[2])
        word = self.dice.choice(words)
        parts = {
            "work": lambda: (self.dice.random() < 0.6,), "read": lambda: (self.where(), self.dice.randint(1, 3)),
            "reads": lambda: (self.where(), self.dice.randint(1, 3)), "write": lambda: (self.where(), self.text()), "shut": lambda: (self.where(),),
            "timeout": lambda: (self.dice.randrange(4),), "cancel": lambda: (self.dice.choice(self.tags),),
            "update": lambda: (self.dice.randrange(len(self.setup[3])), self.dice.choice((None, *self.setup[2])))}
        return (word, *parts.get(word, tuple)())

    def tag(self):
        self.tags.append(self.names.pop())
        return self.tags[-1]

    def lot(self):
        many = self.dice.randint(1, min(4, self.most - len(self.tags)))
        lot = []
        bound = False
        while len(lot) < many:
            deed = self.deed()
            flags = ["drain"] * (not bound and self.dice.random() < 0.15)
            flags += ["silent"] * (deed in (("nop",), ("work", True)) and self.dice.random() < 0.3)
            flags += ["pick"] * (deed[0] in ("read", "reads") and self.dice.random() < 0.5)
            bound = len(lot) + 1 < many and self.dice.random() < self.bound
            flags += [self.dice.choice(("link", "hard"))] * bound
            lot.append((self.tag(), deed, tuple(sorted(flags))))
            if bound and (len(lot) + 1 == many or self.dice.random() < 0.4):
                lot.append((self.tag(), ("linktimeout", self.dice.randrange(4)), ()))
        if bound and lot[-1][1][0] != "linktimeout":
            tag, deed, flags = lot[-1]
            lot[-1] = (tag, deed, tuple(flag for flag in flags if flag not in ("hard", "link")))
        return tuple(lot)

    def event(self, word):
        if word == "put":
            return ("put", self.lot()) if len(self.tags) < self.most else ("quiet",)
        if word == "clock":
            self.time += self.dice.randint(1, 2)
            return ("clock", self.time)
        pipe = self.dice.choice(self.setup[2] or ("",))
        return {
            "reap": ("reap", self.dice.randint(1, 3)), "give": ("give", pipe, self.text()), "take": ("take", pipe, self.dice.randint(1, 3)),
            "lend": ("lend", self.dice.randint(1, 2)), "quiet": ("quiet",), "stop": ("stop",)}[word]

    def script(self):
        words = ["put"] * 5 + ["clock", "reap", "reap", "lend", "quiet", "quiet"] + ["give", "give", "take"] * bool(self.setup[2])
        events = [self.event(self.dice.choice(words)) for _ in range(self.dice.randint(1, 12))]
        if self.dice.random() < 0.3:
            events.insert(self.dice.randrange(len(events) + 1), ("stop",))
        return tuple(events) + (("quiet",),)

    def run(self, script, watch=None):
        """A Ring that has done the script and reaps behind it, with steps between; watch is called with each one and the Ring."""
        ring = Ring(self.setup)
        eager = self.dice.random()
        for at, event in enumerate(script):
            while ring.possible() and (event[0] == "quiet" or self.dice.random() < eager):
                index = self.dice.randrange(len(ring.possible()))
                watch and watch(ring, ring.possible()[index])
                ring.step(index)
            watch and watch(ring, ("user", at))
            ring.do(event)
        while ring.history()[-1] != (("reap", 9), ()):
            watch and watch(ring, ("user", len(ring.history())))
            ring.reap(9)
        return ring


class ChainMaker(Maker):
    """Makes longer chains, whose members are cancelled more often."""

    bound = 0.85
    cancels = 9
