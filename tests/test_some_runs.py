"""Histories of many runs: they fit together, their nodes are what was done as one, their texts tell all of them."""

import unittest
from collections import Counter

from endonce.data import chains, is_closed, is_history, is_script, is_setup, script_of
from endonce.nodes import nodes
from endonce.sums import sums
from endonce.texts import history_in, history_text, script_in, script_text, setup_in, setup_text
from some_runs import Maker
from things import as_lists

MANY = 1500


def made(seed):
    maker = Maker(seed)
    return maker, maker.script()


class Watch:
    """What is done as one, from what a Ring tells before and after each step or event."""

    def __init__(self):
        self.nodes = []
        self.posts = 0
        self.before = None

    def __call__(self, ring, step):
        self.after(ring)
        if step[0] in ("post", "note"):
            step = ("post", self.posts)
            self.posts += 1
        self.before = (step, {tag: begun for tag, begun, _ in ring.unended()})

    def after(self, ring):
        if self.before is None:
            return
        step, before = self.before
        now = {tag: begun for tag, begun, _ in ring.unended()}
        node = {step} if step[0] != "end" else set()
        node |= {("begin", tag) for tag, begun in now.items() if begun and not before.get(tag, False)}
        node |= {("end", tag) for tag in before if tag not in now}
        if step[0] == "begin":
            # A linktimeout that begins and ends in one step is seen by its request alone.
            lots = [event[1] for event, _ in ring.history() if event[0] == "put"]
            timers = dict(pair for lot in lots for chain in chains(lot) for pair in chain)
            node |= {("begin", tag) for tag in [timers[step[1]]] if tag in before}
        self.nodes.append(tuple(sorted(node)))


class Queries:
    """What the queries of a Ring must tell, from its history, its unended requests and the steps that were done."""

    def __init__(self, test, setup):
        self.test = test
        self.setup = setup
        self.steps = []

    def __call__(self, ring, step):
        self.check(ring)
        self.steps.append(step)

    def check(self, ring):
        events = [event for event, _ in ring.history()]
        requests = {request[0]: request for event in events if event[0] == "put" for request in event[1]}
        posts = [step for step in self.steps if step[0] in ("post", "note")]
        reaped = [row for event, told in ring.history() if event[0] == "reap" for row in told]
        self.test.assertEqual(ring.outstanding(), len(posts) - len(reaped))
        self.test.assertEqual(ring.buffers()[1], sum(event[1] for event in events if event[0] == "lend"))
        for slot in range(len(self.setup[3])):
            updates = [step[1] for step in self.steps if step[0] == "begin" and requests[step[1]][1][:2] == ("update", slot)]
            turns = [self.setup[3][slot]] + [requests[tag][1][2] for tag in updates]
            self.test.assertEqual(ring.turn(slot), (len(turns) - 1, turns[-1]))
            for number in range(len(turns) + 1):
                holders = [tag for tag, _, turn in ring.unended() if turn == number and requests[tag][1][1] == ("slot", slot)]
                self.test.assertEqual(ring.holders(slot, number), holders)
        for pipe in self.setup[2]:
            taken = "".join(told[1] for event, told in ring.history() if event[:2] == ("take", pipe))
            self.test.assertGreaterEqual(ring.letters(pipe)[0], len(taken))


class Stuck:
    """Whether those that have not ended at a quiet moment are just those that nothing lets go on."""

    def __init__(self, test, setup):
        self.test = test
        self.setup = setup
        self.many = 0

    def __call__(self, ring, step):
        if ring.possible():
            return
        events = [event for event, told in ring.history() if told not in ("busy", "stopped")]
        lots = [event[1] for event in events if event[0] == "put"]
        self.requests = [request for lot in lots for request in lot]
        self.chains = [[tag for tag, _ in chain] for lot in lots for chain in chains(lot)]
        self.time = max([event[1] for event in events if event[0] == "clock"], default=0)
        self.left = {row[0]: row for row in ring.unended()}
        for tag, begun, turn in ring.unended():
            self.many += 1
            self.test.assertTrue(self.waits_to_go_on(ring, tag, turn) if begun else self.waits_to_begin(tag), (ring.history(), tag))

    def waits_to_begin(self, tag):
        names = [request[0] for request in self.requests]
        deeds = {request[0]: request for request in self.requests}
        if deeds[tag][1][0] == "linktimeout":
            ahead = [name for name in names[:names.index(tag)] if deeds[name][1][0] != "linktimeout"]
            return ahead[-1] in self.left and not self.left[ahead[-1]][1]
        chain = [row for row in self.chains if tag in row][0]
        waiting = [name for name in names[:names.index(tag)] if name in self.left]
        drains = [name for name in waiting if "drain" in deeds[name][2] and name not in chain]
        in_chain = [name for name in chain[:chain.index(tag)] if name in self.left]
        return bool(in_chain or drains or ("drain" in deeds[tag][2] and waiting))

    def waits_to_go_on(self, ring, tag, turn):
        deed = [request[1] for request in self.requests if request[0] == tag][0]
        if deed[0] in ("timeout", "linktimeout"):
            return self.time < deed[1]
        if deed[0] not in ("read", "reads", "write"):
            return False
        pipe = deed[1][1]
        if deed[1][0] == "slot":
            number, pipe = ring.turn(deed[1][1])
            if turn != number:
                # Which pipe an earlier turn had, a Ring does not tell.
                return True
        many = len(ring.letters(pipe)[1])
        waits = many == 0 if deed[0] != "write" else many + len(deed[2]) > self.setup[1]
        return waits and ring.twin().give(pipe, "a")[0] == "given"


class SomeRunsTest(unittest.TestCase):
    def test_at_quiet_moments_nothing_lets_those_go_on_that_have_not_ended(self):
        many = 0
        for seed in range(0, MANY, 3):
            maker, script = made(seed)
            watch = Stuck(self, maker.setup)
            maker.run(script, watch)
            many += watch.many
        self.assertGreater(many, 500)

    def test_the_queries_at_each_moment(self):
        for seed in range(0, MANY, 5):
            maker, script = made(seed)
            watch = Queries(self, maker.setup)
            watch.check(maker.run(script, watch))

    def test_the_histories_of_runs(self):
        words = Counter()
        for seed in range(MANY):
            maker, script = made(seed)
            setup = maker.setup
            watch = Watch()
            ring = maker.run(script, watch)
            watch.after(ring)
            history = ring.history()
            with self.subTest(seed=seed):
                self.assertTrue(is_setup(setup) and is_script(setup, script) and is_history(setup, history) and is_closed(history))
                self.assertEqual(script_of(history)[:len(script)], script)
                self.assertEqual(repr(history_in(setup, history_text(history))), repr(history))
                self.assertEqual(repr(script_in(setup, script_text(script))), repr(script))
                self.assertEqual(setup_in(setup_text(setup)), setup)
                self.assertIsNone(sums(setup, history))
                self.assertIsNone(sums(as_lists(setup), as_lists(history)))
                self.assertEqual(nodes(setup, history), sorted(watch.nodes))
                ends = [row[0] for event, told in history if event[0] == "reap" for row in told if not row[3] and isinstance(row[0], str)]
                self.assertEqual(len(ends), len(set(ends)))
            words.update(row[1][0] for event, told in history if event[0] == "reap" for row in told)
        # Each result of the document occurs in these runs, so all of them were looked at.
        self.assertEqual(len(words), 22, words)

    def test_the_same_choices_give_the_same_ring(self):
        for seed in range(0, MANY, 10):
            rings = [maker.run(script) for maker, script in (made(seed), made(seed))]
            self.assertEqual(rings[0], rings[1])
            self.assertEqual(rings[0].twin(), rings[1])

    def test_a_twin_at_each_moment_goes_on_in_the_same_way(self):
        for seed in range(0, MANY, 40):
            maker, script = made(seed)
            done = []
            twins = []
            ring = maker.run(script, lambda ring, step: (twins.append((ring.twin(), len(done))), done.append(step)))
            for twin, at in twins:
                for step in done[at:]:
                    if step[0] == "user":
                        twin.do(ring.history()[step[1]][0])
                    else:
                        twin.step(twin.possible().index(step))
                self.assertEqual(twin, ring)
                self.assertEqual(repr(twin.history()), repr(ring.history()))


if __name__ == "__main__":
    unittest.main()
