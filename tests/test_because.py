import unittest
from copy import deepcopy
from random import Random

from endonce.because import because
from endonce.errors import NoStep, NoSums, NotClosed
from endonce.must import must
from endonce.nodes import nodes
from endonce.ring import Ring
from endonce.texts import history_in, setup_in
from searches import closed_in
from some_runs import ChainMaker, Maker
from things import as_lists

PQ = "ring 9 4 pipes p q slots p -"


class BecauseTest(unittest.TestCase):
    def check(self, tag, wanted, *lines, setup=PQ):
        """The steps, as words, and the whole list, which ascends."""
        made, history = closed_in(setup, *lines)
        told = because(made, history, tag)
        self.assertIsInstance(told, list)
        self.assertEqual(told, sorted(set(told)))
        self.assertEqual("; ".join(" ".join(str(part) for part in step) for step in told), wanted)

    def test_a_put_alone(self):
        self.check("b", "begin b; end b; user 0", "put a nop | b nop", "clock 1", "quiet -> -", "reap 9 -> b done ; a done")
        self.check("w", "begin w; end w; user 1", "give p a -> 0", "put w work good silent", "quiet -> -")

    def test_a_cancel(self):
        lines = ("put r read p 1", "put c cancel r | n nop", "quiet -> -", "reap 9 -> r cancelled c yes ; c took yes ; n done")
        self.check("r", "begin c; begin r; end c; end r; user 0; user 1", *lines)
        self.check("c", "begin c; begin r; end c; end r; user 0; user 1", *lines)
        # The lot of n names r, so it can be put only behind the put of r.
        self.check("n", "begin n; end n; user 0; user 1", *lines)
        # A put that was told a word is needed for the cancel of what was not put.
        self.check("c", "begin c; end c; user 1; user 3", "put a nop | b nop", "put z nop -> busy", "reap 1 -> a done", "put c cancel z", "quiet -> -",
                   "reap 1 -> b done !", "reap 1 -> c none !", setup="ring 1 4 pipes slots")
        self.check("c", "begin a; begin c; end a; end c; user 0", "put a nop | c cancel a", "quiet -> -", "reap 9 -> a done ; c gone")

    def test_a_letter(self):
        lines = ("give p a -> 0", "give p b -> 1", "put r read p 1 | s read p 1 | x nop", "quiet -> -", "reap 9 -> r text p 1 b ; s text p 0 a ; x done")
        self.check("s", "begin s; end s; user 0; user 2", *lines)
        # r took the second letter, so s had to take the first one.
        self.check("r", "begin r; begin s; end r; end s; user 0; user 1; user 2", *lines)

    def test_a_turn_a_clock_and_a_lend(self):
        self.check("r", "begin r; begin u; end r; end u; user 0; user 1", "put u update 1 p | r read #1 1", "give p a -> 0", "quiet -> -",
                   "reap 9 -> u turn 1 ; r text p 0 a @1")
        self.check("t", "begin t; end t; user 0; user 2", "put t timeout 2", "clock 1", "clock 2", "clock 3", "quiet -> -", "reap 9 -> t time")
        self.check("r", "begin r; end r; user 0; user 1; user 2", "put r read p 1 pick", "lend 1", "give p a -> 0", "lend 1", "quiet -> -",
                   "reap 9 -> r picked p 0 a 0")

    def test_fires_chains_drains_and_stops(self):
        self.check("s", "begin h; begin s; end h; end s; fire s 0; user 0; user 1; user 2", "put s reads p 1", "give p a -> 0", "put h shut p", "clock 1",
                   "quiet -> -", "reap 9 -> s text p 0 a + ; h done ; s end p 1 h")
        self.check("b", "begin a; begin b; begin t; end a; end b; end t; user 0", "put a work good link | t linktimeout 9 | b nop | c nop", "quiet -> -",
                   "reap 9 -> a done ; t off ; b done ; c done")
        self.check("d", "begin a; begin b; begin d; end a; end b; end d; user 0", "put a nop | b nop | d nop drain | e nop", "quiet -> -",
                   "reap 9 -> a done ; b done ; d done ; e done")
        self.check("r", "begin a; begin r; begin w; end a; end r; user 0; user 2", "put a nop | r read p 1 | w work good", "clock 1", "stop", "quiet -> -",
                   "reap 9 -> a done ; r stopped yes ; w done")
        self.check("b", "begin c; end b; end c; user 0; user 1", "put a read p 1 link | b nop", "put c cancel b", "quiet -> a yes -",
                   "reap 9 -> b cancelled c no ; c took no")
        # b was not broken, so it had ended ahead of a.
        self.check("a", "begin a; begin c; begin e; end a; end b; end c; end e; user 0; user 1; user 2", "put a read p 1 link | b nop", "put c cancel b",
                   "put e cancel a", "quiet -> -", "reap 9 -> b cancelled c no ; c took no ; a cancelled e yes ; e took yes")

    def test_what_is_no_need(self):
        # Quiets, reaps and the order of the user.
        self.check("a", "begin a; end a; user 3", "clock 1", "quiet -> -", "reap 1 -> -", "put a nop", "quiet -> -", "reap 9 -> a done")
        # A take of nothing that came ahead of the letter.
        self.check("r", "begin r; end r; user 1; user 2", "take p 1 -> 0 -", "give p a -> 0", "put r read p 1", "quiet -> -", "reap 9 -> r text p 0 a")
        # What was given ahead of a shut, and what was written.
        self.check("s", "begin s; end s; user 1", "give p a -> 0", "put w write p b | s shut p", "quiet -> -", "reap 9 -> w wrote p 1 ; s done")
        # An end without a buffer, ahead of the lend and of the pick.
        self.check("d", "begin d; end d; user 0; user 2; user 3", "give p a -> 0", "put b read p 1 pick", "lend 1", "put d read p 1 pick", "quiet -> -",
                   "reap 9 -> b no-buffer p 0 0 ; d picked p 0 a 0")
        # One that looked at the turn ahead.
        self.check("u", "begin u; end u; user 0", "put r read #0 1 | u update 0 q", "quiet -> r yes 0", "reap 9 -> u turn 1")
        # A cancel that came too late for a work; for the cancel the begin of the work was needed.
        self.check("w", "begin w; end w; user 0", "put w work good | c cancel w", "quiet -> -", "reap 9 -> c late ; w done")
        self.check("c", "begin c; begin w; end c; user 0", "put w work good | c cancel w", "quiet -> -", "reap 9 -> c late ; w done")
        # What came between others in the queue.
        self.check("b", "begin b; end b; user 2", "put a nop", "reap 1 -> a done", "put b nop", "quiet -> -", "reap 1 -> b done", setup="ring 1 4 pipes slots")

    def test_it_does_not_ask_whether_the_history_is_possible(self):
        self.check("r", "begin r; end r; user 0; user 2", "put r read p 1", "reap 9 -> r text p 0 a", "give p a -> 0", "quiet -> -")

    def test_a_request_that_did_not_end(self):
        setup, history = closed_in("ring 1 4 pipes p slots", "put a nop | b nop", "put z nop -> busy", "reap 1 -> a done", "put r read p 1", "quiet -> r yes -",
                                   "reap 1 -> b done !")
        for tag in ("r", "z", "y"):
            with self.assertRaises(NoStep) as caught:
                because(setup, history, tag)
            self.assertEqual(caught.exception.which, ("end", tag))

    def test_errors_in_their_order(self):
        setup = setup_in(PQ)
        with self.assertRaises(NotClosed):
            because(setup, history_in(setup, "put a nop\nquiet -> -"), "z")
        with self.assertRaises(NoSums) as caught:
            because(*closed_in(PQ, "put a nop", "quiet -> -"), "z")
        self.assertEqual((caught.exception.word, caught.exception.what), ("end", "a"))

    def test_lists_and_names_of_arguments(self):
        setup, history = closed_in(PQ, "put r read #0 1 | u update 0 q", "give p a -> 0", "quiet -> -", "reap 9 -> r text p 0 a @0 ; u turn 1 ; #0 freed 0")
        wanted = because(setup, history, "r")
        given = [as_lists(setup), as_lists(history), "r"]
        copies = deepcopy(given)
        self.assertEqual(repr(because(*given)), repr(wanted))
        self.assertEqual(given, copies)
        self.assertEqual(because(tag="r", history=history, setup=setup), wanted)
        because(setup, history, "r").clear()
        self.assertEqual(because(setup, history, "r"), wanted)


class EnoughTest(unittest.TestCase):
    """What because tells is enough: a new Ring that does nothing else tells the same."""

    def replay(self, setup, history, steps, order):
        ring = Ring(setup)
        for move in order:
            if move[0] == "user":
                event, told = history[move[1]]
                self.assertEqual(ring.do(event), told)
            else:
                ring.step(ring.possible().index(move))
        unended = [row[0] for row in ring.unended()]
        begun = {row[0]: row[1] for row in ring.unended()}
        put = [request[0] for event, _ in ring.history() if event[0] == "put" for request in event[1]]
        self.assertEqual(sorted(tag for tag in put if tag not in unended), sorted(step[1] for step in steps if step[0] == "end"))
        self.assertTrue(all(begun.get(tag, True) == (("begin", tag) in steps) for tag in unended))
        for step in [step for step in ring.possible() if step[0] in ("post", "note")]:
            while step in ring.possible():
                ring.step(ring.possible().index(step))
                step = (step[0], step[1], step[2] + 1)
        rows = []
        while ring.outstanding():
            rows += [row[:4] for row in ring.reap(9)]
        everything = [row[:4] for event, told in history if event[0] == "reap" for row in told]
        self.assertEqual([row for row in rows if row not in everything], [])

    def test_runs(self):
        many = 0
        for seed in range(170):
            for maker in (Maker(seed), ChainMaker(seed)):
                dice = Random(seed)
                setup = maker.setup
                done = []
                history = maker.run(maker.script(), lambda ring, step: done.append(step)).history()
                names = {step: node[0] for node in nodes(setup, history) for step in node}
                ahead = {name: [row[0] for row in must(setup, history) if row[2] == name] for name in names.values()}
                order = []
                while len(order) < len(ahead):
                    free = [name for name in ahead if name not in order and all(other in order for other in ahead[name])]
                    order.append(dice.choice(free))
                for tag in [step[1] for step in names if step[0] == "end"]:
                    steps = because(setup, history, tag)
                    needed = {names[step] for step in steps}
                    self.assertEqual(sorted(step for step in names if names[step] in needed), steps)
                    events = [history[step[1]] for step in steps if step[0] == "user"]
                    self.assertFalse([event for event, _ in events if event[0] in ("quiet", "reap")])
                    if any(told in ("busy", "stopped") for event, told in events if event[0] == "put"):
                        continue
                    moves = [[move for move in done if names.get(move) == name][0] for name in order if name in needed]
                    self.replay(setup, history, steps, moves)
                    many += 1
        self.assertGreater(many, 1000)


if __name__ == "__main__":
    unittest.main()
