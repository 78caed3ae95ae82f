import unittest
from copy import deepcopy

from endonce.data import is_closed, is_history, script_of
from endonce.errors import NoStep, NoSums, NotClosed, NotPossible
from endonce.judge import before, choices_of, judge, order
from endonce.must import must
from endonce.nodes import nodes
from endonce.runs import run, steps_of
from endonce.sums import sums
from endonce.texts import history_in, setup_in
from searches import closed_in, named_posts
from some_runs import ChainMaker, Maker
from things import as_lists

PQ = "ring 9 4 pipes p q slots p -"
LATE = (
    (("put", (("r", ("read", ("slot", 0), 1), ("link",)), ("u", ("update", 0, "p"), ()))), None), (("give", "p", "a"), ("given", 0)), (("quiet",), ()),
    (("reap", 5), (("r", ("text", "p", 0, "a"), 1, False, False), ("u", ("turn", 1), None, False, False))), (("reap", 5), ()))
# A reap that tells of a letter that is given only behind it.
EARLY = ("put r read p 1", "reap 9 -> r text p 0 a", "give p a -> 0", "quiet -> -")
EARLY_RING = ((("end", "r"), "post"), (("post", 0), "reap"), (("user", 1), "user"), (("user", 2), "letter"))


def shorter_rings(triples, many):
    """All rings of at most so many nodes, from any of their nodes on."""
    nexts = {}
    for node, kind, other in triples:
        nexts.setdefault(node, []).append((kind, other))
    rings = []
    ways = [((node, kind), other, ((node, kind),)) for node in nexts for kind, other in nexts[node]]
    for _ in range(many):
        further = []
        for (first, _), last, pairs in ways:
            if last == first:
                rings.append(pairs)
            elif last not in [node for node, _ in pairs]:
                further += [(pairs[0], other, pairs + ((last, kind),)) for kind, other in nexts.get(last, [])]
        ways = further
    return rings


def changed(history):
    """Histories with two neighbouring events, or two neighbouring completions, exchanged; kept stays where it was."""
    for at in range(1, len(history)):
        yield history[:at - 1] + (history[at], history[at - 1]) + history[at + 1:]
    places = [(at, number) for at, (event, told) in enumerate(history) if event[0] == "reap" for number in range(len(told))]
    for one, other in zip(places, places[1:]):
        rows = [[event, list(told) if event[0] == "reap" else told] for event, told in history]
        first, last = (rows[at][1][number] for at, number in (one, other))
        rows[one[0]][1][one[1]] = last[:4] + first[4:]
        rows[other[0]][1][other[1]] = first[:4] + last[4:]
        yield tuple((event, tuple(told) if event[0] == "reap" else told) for event, told in rows)


class JudgeTest(unittest.TestCase):
    def told(self, *lines, setup=PQ):
        return judge(*closed_in(setup, *lines))

    def test_the_example_of_the_document(self):
        self.assertEqual(judge((2, 4, ("p",), (None,)), LATE),
                         ("ring", ((("begin", "r"), "begun"), (("end", "r"), "chain"), (("begin", "u"), "turn"))))

    def test_histories_of_runs_are_possible(self):
        for maker in [Maker(seed) for seed in range(300)] + [ChainMaker(seed) for seed in range(100)]:
            self.assertIsNone(judge(maker.setup, maker.run(maker.script()).history()))

    def test_numbers(self):
        self.assertEqual(self.told("give p ab -> 0", "take p 1 -> 0 b", "quiet -> -"), ("numbers", "letters", "p"))
        self.assertEqual(self.told("put a nop", "quiet -> -"), ("numbers", "end", "a"))
        self.assertEqual(self.told("quiet -> -", "reap 1 -> #0 freed 0 ; #0 freed 1"), ("numbers", "reap", 1))
        # Those of EARLY fit, so it is the numbers of others that are told.
        self.assertEqual(self.told("put x nop", *EARLY), ("numbers", "end", "x"))

    def test_rings(self):
        self.assertEqual(self.told(*EARLY), ("ring", EARLY_RING))
        # r ended as it began, but the quiet tells that it had begun and had not ended.
        self.assertEqual(self.told("put r read #1 1", "quiet -> r yes 0", "quiet -> -", "reap 9 -> r bare @0"),
                         ("ring", ((("begin", "r"), "quiet"), (("user", 1), "quiet"))))
        # Each of both took its letter ahead of the other's begin.
        self.assertEqual(self.told("give p a -> 0", "give q b -> 0", "put a read p 1 link | b read q 1", "put c read q 1 link | d read p 1",
                                   "give p x -> 1", "give q y -> 1", "quiet -> -", "reap 9 -> a text p 1 x ; b text q 0 b ; c text q 1 y ; d text p 0 a"),
                         ("ring", ((("begin", "b"), "begun"), (("end", "b"), "taken"), (("end", "c"), "chain"), (("begin", "d"), "begun"),
                                   (("end", "d"), "taken"), (("end", "a"), "chain"))))

    def test_the_shortest_ring_and_the_least_of_these(self):
        found = {}
        for seed in range(150):
            for maker in (Maker(seed, 6), ChainMaker(seed, 6)):
                for other in changed(maker.run(maker.script()).history()):
                    if not is_history(maker.setup, other) or not is_closed(other):
                        continue
                    reason = judge(maker.setup, other)
                    if reason is None or reason[0] == "numbers":
                        self.assertEqual(reason and reason[1:], sums(maker.setup, other))
                        continue
                    word, ring = reason
                    self.assertEqual((word, ring.__class__), ("ring", tuple))
                    found[len(ring)] = found.get(len(ring), 0) + 1
                    if len(ring) < 5:
                        rings = shorter_rings(must(maker.setup, other), len(ring))
                        self.assertEqual(min(len(row) for row in rings), len(ring))
                        self.assertEqual(min(rings), ring)
        self.assertTrue(all(found.get(many, 0) > 9 for many in (2, 3, 4)), found)

    def test_many_rings(self):
        # The same ring with each of many readers; that of the least one is told.
        tags = "fedcba"
        self.assertEqual(self.told("put " + " | ".join(f"{tag} read p 1" for tag in tags),
                                   "reap 9 -> " + " ; ".join(f"{tag} text p {at} x" for at, tag in enumerate(tags)), "give p xxxxxx -> 0", "quiet -> -")[1][0],
                         (("end", "a"), "post"))

    def test_not_closed(self):
        setup = setup_in(PQ)
        for text in ("", "quiet -> -", "reap 1 -> -", "give p a -> 1\nquiet -> -\nreap 1 -> -\nlend 1"):
            for function in (judge, order, choices_of, lambda *given: before(*given, ("user", 7), ("user", 8))):
                with self.subTest(text=text), self.assertRaises(NotClosed):
                    function(setup, history_in(setup, text))

    def test_lists_and_names_of_arguments(self):
        setup = (2, 4, ("p",), (None,))
        given = [as_lists(setup), as_lists(LATE)]
        copies = deepcopy(given)
        self.assertEqual(repr(judge(*given)), repr(judge(setup, LATE)))
        self.assertEqual(given, copies)
        self.assertEqual(judge(history=LATE, setup=setup), judge(setup, LATE))


class OrderTest(unittest.TestCase):
    def test_always_the_least_one_that_can_be_next(self):
        setup, history = closed_in(PQ, "put z work good | a nop", "clock 1", "quiet -> -", "reap 9 -> a done ; z done")
        self.assertEqual(order(setup, history), [
            ("user", 0), ("begin", "a"), ("begin", "z"), ("end", "z"), ("post", 0), ("post", 1), ("user", 1), ("user", 2), ("user", 3), ("user", 4)])

    def test_runs(self):
        for maker in [Maker(seed) for seed in range(200)] + [ChainMaker(seed) for seed in range(50)]:
            history = maker.run(maker.script()).history()
            triples = must(maker.setup, history)
            told = order(maker.setup, history)
            self.assertIsInstance(told, list)
            left = [node[0] for node in nodes(maker.setup, history)]
            for name in told:
                free = [node for node in left if not any(row[2] == node and row[0] in left for row in triples)]
                self.assertEqual(name, min(free))
                left.remove(name)
            self.assertEqual(left, [])

    def test_not_possible(self):
        for function in (order, choices_of, lambda *given: before(*given, ("user", 0), ("user", 99))):
            with self.assertRaises(NotPossible) as caught:
                function(*closed_in(PQ, *EARLY))
            self.assertEqual(caught.exception.reason, ("ring", EARLY_RING))
            with self.assertRaises(NotPossible) as caught:
                function(*closed_in(PQ, "put a nop", "quiet -> -"))
            self.assertEqual(caught.exception.reason, ("numbers", "end", "a"))

    def test_lists_and_names_of_arguments(self):
        setup, history = closed_in(PQ, "put r read #0 1 | u update 0 q", "give p a -> 0", "quiet -> -", "reap 9 -> r text p 0 a @0 ; u turn 1 ; #0 freed 0")
        for function in (order, choices_of):
            wanted = function(setup, history)
            given = [as_lists(setup), as_lists(history)]
            copies = deepcopy(given)
            self.assertEqual(repr(function(*given)), repr(wanted))
            self.assertEqual(given, copies)
            self.assertEqual(function(history=history, setup=setup), wanted)
            function(setup, history).clear()
            self.assertEqual(function(setup, history), wanted)


class BeforeTest(unittest.TestCase):
    HISTORY = closed_in(PQ, "put r read p 1 link | t linktimeout 3 | n nop", "put w work good", "put k cancel r", "quiet -> -",
                        "reap 9 -> r cancelled k yes ; t off ; n broken r ; k took yes ; w done")

    def check(self, wanted, one, other):
        self.assertIs(before(*self.HISTORY, one, other), wanted)

    def test_straight_and_by_others(self):
        self.check(True, ("user", 0), ("user", 1))
        self.check(True, ("user", 0), ("post", 4))
        self.check(True, ("begin", "r"), ("end", "r"))
        self.check(True, ("begin", "t"), ("end", "n"))
        self.check(True, ("begin", "w"), ("post", 4))
        self.check(True, ("post", 0), ("user", 5))
        self.check(True, ("end", "k"), ("post", 0))

    def test_not_so(self):
        self.check(False, ("user", 1), ("user", 0))
        self.check(False, ("end", "r"), ("begin", "r"))
        self.check(False, ("begin", "w"), ("begin", "k"))
        self.check(False, ("begin", "k"), ("begin", "w"))
        self.check(False, ("end", "w"), ("post", 3))

    def test_both_of_one_node(self):
        for one in (("begin", "k"), ("end", "k"), ("end", "r"), ("end", "t"), ("end", "n")):
            for other in (("begin", "k"), ("end", "k"), ("end", "r"), ("end", "t"), ("end", "n")):
                self.check(False, one, other)
        self.check(False, ("begin", "t"), ("begin", "r"))
        self.check(False, ("user", 0), ("user", 0))

    def test_no_step(self):
        for one, other, which in (
                (("begin", "n"), ("begin", "z"), ("begin", "n")), (("user", 0), ("begin", "n"), ("begin", "n")), (("user", 7), ("user", 0), ("user", 7)),
                (("user", 0), ("post", 5), ("post", 5)), (("fire", "r", 0), ("user", 0), ("fire", "r", 0)), (("free", 0, 0), ("user", 99), ("free", 0, 0)),
                (("user", 0), ("end", "z"), ("end", "z")), (["post", 5], ["user", 0], ("post", 5))):
            with self.assertRaises(NoStep) as caught:
                before(*self.HISTORY, one, other)
            self.assertEqual(repr(caught.exception.which), repr(which))

    def test_lists_and_names_of_arguments(self):
        given = [as_lists(part) for part in (*self.HISTORY, ("begin", "r"), ("end", "k"))]
        copies = deepcopy(given)
        self.assertIs(before(*given), True)
        self.assertEqual(given, copies)
        setup, history = self.HISTORY
        self.assertIs(before(other=("end", "k"), one=("begin", "r"), history=history, setup=setup), True)


class ChoicesOfTest(unittest.TestCase):
    def test_known_choices(self):
        self.assertEqual(choices_of(*closed_in(PQ, "quiet -> -")), [])
        self.assertEqual(choices_of(*closed_in(PQ, "put a nop | b nop", "quiet -> -", "reap 9 -> b done ; a done")), [0, 0, 0, 2])
        # A nop and its post come ahead of the clock, as they are less.
        self.assertEqual(choices_of(*closed_in(PQ, "put a nop", "clock 1", "quiet -> -", "reap 9 -> a done")), [0, 1, 1])

    def test_they_lead_to_the_history_in_the_order_that_order_tells(self):
        for maker in [Maker(seed) for seed in range(200)] + [ChainMaker(seed) for seed in range(50)]:
            history = maker.run(maker.script()).history()
            choices = choices_of(maker.setup, history)
            self.assertEqual(repr(run(maker.setup, script_of(history), choices)), repr(history))
            names = {step: node[0] for node in nodes(maker.setup, history) for step in node}
            done = named_posts(steps_of(maker.setup, script_of(history), choices))
            self.assertEqual([names[step] for step in done], order(maker.setup, history))
            # They are the least that do the same: no 0 at their end, and no choice that a lesser one could stand for.
            self.assertTrue(not choices or choices[-1] > 0)
            for at, choice in enumerate(choices):
                for less in range(choice):
                    other = choices[:at] + [less] + choices[at + 1:]
                    self.assertNotEqual(steps_of(maker.setup, script_of(history), other), steps_of(maker.setup, script_of(history), choices))


class ErrorsTest(unittest.TestCase):
    def test_numbers_are_no_sums_here(self):
        # The judge tells them; it does not raise NoSums as must does.
        setup, history = closed_in(PQ, "put a nop", "quiet -> -")
        self.assertEqual(judge(setup, history), ("numbers", "end", "a"))
        with self.assertRaises(NoSums):
            must(setup, history)


if __name__ == "__main__":
    unittest.main()
