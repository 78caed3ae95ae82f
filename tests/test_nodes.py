import unittest
from copy import deepcopy

from endonce.errors import NoSums, NotClosed
from endonce.nodes import nodes
from endonce.ring import Ring
from endonce.texts import history_in, setup_in
from things import as_lists, close, do

PQ = "ring 9 4 pipes p q slots p -"
PIPE = ("pipe", "p")
NOP = ("nop",)


def closed(setup, lines):
    """A SETUP and a closed HISTORY with these lines."""
    setup = setup_in(setup)
    return setup, history_in(setup, "\n".join(lines) + "\nreap 9 -> -")


class NodesTest(unittest.TestCase):
    def check(self, wanted, *lines):
        """The nodes without those of user events and posts that are alone."""
        setup, history = closed(PQ, lines)
        told = nodes(setup, history)
        self.assertIsInstance(told, list)
        self.assertEqual(told, sorted(told))
        steps = [step for node in told for step in node]
        self.assertEqual(len(steps), len(set(steps)))
        self.assertTrue(all(list(node) == sorted(node) and isinstance(node, tuple) for node in told))
        many = sum(len(pair[1]) for pair in history if pair[0][0] == "reap")
        self.assertEqual(sorted(step for step in steps if step[0] == "user"), [("user", at) for at in range(len(history))])
        self.assertEqual([node for node in told if node[0][0] == "post"], [(("post", number),) for number in range(many)])
        alone = [node for node in told if len(node) > 1 or node[0][0] not in ("user", "post")]
        self.assertEqual(alone, wanted)

    def test_no_steps_of_the_kernel(self):
        self.check([], "quiet -> -")
        self.check([], "give p ab -> 0", "take p 1 -> 0 a", "clock 3", "lend 2", "stop", "put a nop -> stopped", "quiet -> -")
        self.assertEqual(nodes(*closed(PQ, ["quiet -> -"])), [(("user", 0),), (("user", 1),)])

    def test_what_ends_where_it_begins(self):
        self.check([(("begin", "a"), ("end", "a"))], "put a nop", "quiet -> -", "reap 1 -> a done")
        self.check([(("begin", "a"), ("end", "a"))], "put a nop silent", "quiet -> -")
        self.check([(("begin", "a"), ("end", "a"))], "put a shut p", "quiet -> -", "reap 1 -> a done")
        self.check([(("begin", "a"), ("end", "a")), (("begin", "b"), ("end", "b"))], "put a shut p | b shut p", "quiet -> -",
                   "reap 2 -> a done ; b shut-already a")
        self.check([(("begin", "a"), ("end", "a")), (("free", 0, 0),)], "put a update 0 q", "quiet -> -", "reap 2 -> a turn 1 ; #0 freed 0")
        self.check([(("begin", "a"), ("end", "a"))], "put a cancelall", "quiet -> -", "reap 1 -> a all /")
        for deed in ("read #1 1", "reads #1 1", "write #1 a", "shut #1"):
            self.check([(("begin", "a"), ("end", "a"))], f"put a {deed}", "quiet -> -", "reap 1 -> a bare @0")

    def test_what_begins_and_ends(self):
        self.check([(("begin", "a"),), (("end", "a"),)], "put a work good", "quiet -> -", "reap 1 -> a done")
        self.check([(("begin", "a"),), (("end", "a"),)], "put a work good silent", "quiet -> -")
        self.check([(("begin", "a"),), (("end", "a"),)], "put a timeout 0", "quiet -> -", "reap 1 -> a time")
        self.check([(("begin", "a"),), (("end", "a"),)], "put a write p a", "quiet -> -", "reap 1 -> a wrote p 0")
        self.check([(("begin", "a"),), (("end", "a"),)], "put a read #0 1", "give p a -> 0", "quiet -> -", "reap 1 -> a text p 0 a @0")

    def test_what_stays(self):
        self.check([(("begin", "a"),)], "put a read p 1 link | b nop", "quiet -> a yes - ; b no -")
        self.check([(("begin", "a"), ("begin", "t"))], "put a read p 1 link | t linktimeout 3 | b read p 1 link | u linktimeout 4",
                   "quiet -> a yes - ; b no - ; t yes - ; u no -")

    def test_fires(self):
        self.check([(("begin", "a"),), (("fire", "a", 0),), (("fire", "a", 1),)], "put a reads p 1", "give p ab -> 0", "quiet -> a yes -",
                   "reap 9 -> a text p 0 a + ; a text p 1 b +")
        self.check([(("begin", "a"),), (("begin", "h"), ("end", "h")), (("end", "a"),), (("fire", "a", 0),)], "put a reads p 1 pick | h shut p",
                   "lend 1", "give p a -> 0", "quiet -> -", "reap 9 -> a picked p 0 a 0 + ; h done ; a end p 1 h")

    def test_a_linktimeout_begins_with_its_request(self):
        lot = "put a read p 1 link | t linktimeout 0"
        self.check([(("begin", "a"), ("begin", "t")), (("end", "a"), ("end", "t"))], lot, "quiet -> -", "reap 9 -> a cancelled t yes ; t time")
        self.check([(("begin", "a"), ("begin", "t")), (("end", "a"), ("end", "t"))], lot, "give p a -> 0", "quiet -> -",
                   "reap 9 -> a text p 0 a ; t off")
        self.check([(("begin", "a"), ("begin", "t"), ("end", "a"), ("end", "t"))], "put a nop link | t linktimeout 0", "quiet -> -",
                   "reap 9 -> a done ; t off")
        self.check([(("begin", "a"), ("begin", "t"), ("end", "a"), ("end", "t"))], "put a nop link silent | t linktimeout 0", "quiet -> -",
                   "reap 9 -> t off")
        self.check([(("begin", "a"), ("begin", "t"), ("end", "a"), ("end", "b"), ("end", "t"))], "put a write #1 a link | t linktimeout 0 | b nop",
                   "quiet -> -", "reap 9 -> a bare @0 ; t off ; b broken a")
        self.check([(("begin", "a"), ("begin", "t")), (("end", "a"),), (("end", "t"),)], "put a work good link | t linktimeout 0", "quiet -> -",
                   "reap 9 -> a done ; t late")

    def test_a_linktimeout_that_ended_ahead_of_its_request(self):
        lot = "put a read p 1 link | t linktimeout 9"
        self.check([(("begin", "a"),), (("begin", "c"), ("end", "c"), ("end", "t"))], lot, "put c cancel t", "quiet -> a yes -",
                   "reap 9 -> t cancelled c no ; c took no")
        self.check([(("begin", "a"), ("begin", "t")), (("begin", "c"), ("end", "c"), ("end", "t"))], lot, "put c cancel t", "quiet -> a yes -",
                   "reap 9 -> t cancelled c yes ; c took yes")

    def test_an_end_and_all_that_ends_with_it(self):
        lot = "put a read p 1 link | t linktimeout 9 | b nop link | u linktimeout 8 | d work good"
        self.check([(("begin", "a"), ("begin", "t")), (("begin", "c"), ("end", "a"), ("end", "b"), ("end", "c"), ("end", "d"), ("end", "t"), ("end", "u"))],
                   lot, "put c cancel a", "quiet -> -",
                   "reap 9 -> a cancelled c yes ; t off ; b broken a ; u off ; d broken a ; c took yes")
        self.check([(("begin", "a"), ("begin", "t")), (("begin", "c"), ("end", "b"), ("end", "c"), ("end", "d"), ("end", "u"))],
                   lot, "put c cancel b", "quiet -> a yes - ; t yes -", "reap 9 -> b cancelled c no ; u off ; d broken b ; c took no")
        self.check([(("begin", "a"),), (("end", "a"), ("end", "b"))], "put a work bad link | b nop", "quiet -> -", "reap 9 -> a bad ; b broken a")
        self.check([(("begin", "a"), ("begin", "t")), (("end", "a"), ("end", "b"), ("end", "t"))], "put a timeout 5 link | t linktimeout 0 | b nop",
                   "quiet -> -", "reap 9 -> a cancelled t yes ; t time ; b broken a")

    def test_a_cancelall(self):
        self.check([(("begin", "a"),), (("begin", "k"), ("end", "a"), ("end", "b"), ("end", "k"), ("end", "t")), (("begin", "t"), ("begin", "w")), (("end", "w"),)],
                   "put a read p 1 | w work good link | t linktimeout 9 | b nop", "put k cancelall", "quiet -> -",
                   "reap 9 -> a cancelled k yes ; t cancelled k yes ; b cancelled k no ; k all a yes b no t yes / w ; w done")

    def test_a_stop(self):
        self.check([(("begin", "a"),), (("begin", "t"), ("begin", "w")), (("end", "a"), ("end", "b"), ("end", "d"), ("end", "u"), ("user", 1)), (("end", "t"), ("end", "w"))],
                   "put a read p 1 | w work good link | t linktimeout 9 | b nop | d nop link | u linktimeout 0", "stop", "quiet -> -",
                   "reap 9 -> a stopped yes ; b stopped no ; d stopped no ; u off ; w done ; t off")

    def test_a_stop_behind_a_text_of_this_name(self):
        self.check([(("end", "a"), ("user", 2))], "give p stop -> 0", "put a nop", "stop", "quiet -> -", "reap 1 -> a stopped no")

    def test_posts_in_the_order_of_the_reaps(self):
        setup, history = closed("ring 2 4 pipes p slots", ["put a nop | b nop | s reads p 1", "give p a -> 0", "quiet -> s yes -", "reap 2 -> b done ; a done", "reap 1 -> s text p 0 a + !"])
        self.assertEqual([step for node in nodes(setup, history) for step in node if step[0] == "post"], [("post", 0), ("post", 1), ("post", 2)])

    def test_requests_that_were_not_put(self):
        setup, history = closed("ring 1 4 pipes slots", ["put a nop | b nop", "put z nop silent -> busy", "reap 1 -> a done", "quiet -> -", "reap 1 -> b done !"])
        self.assertEqual(nodes(setup, history), [
            (("begin", "a"), ("end", "a")), (("begin", "b"), ("end", "b")), (("post", 0),), (("post", 1),), (("user", 0),), (("user", 1),),
            (("user", 2),), (("user", 3),), (("user", 4),), (("user", 5),)])

    def test_it_does_not_ask_whether_the_history_is_possible(self):
        late = (
            (("put", (("r", ("read", ("slot", 0), 1), ("link",)), ("u", ("update", 0, "p"), ()))), None), (("give", "p", "a"), ("given", 0)),
            (("quiet",), ()), (("reap", 5), (("r", ("text", "p", 0, "a"), 1, False, False), ("u", ("turn", 1), None, False, False))), (("reap", 5), ()))
        self.assertEqual(nodes((2, 4, ("p",), (None,)), late)[:3], [(("begin", "r"),), (("begin", "u"), ("end", "u")), (("end", "r"),)])


class ErrorsTest(unittest.TestCase):
    def test_not_closed(self):
        setup = setup_in(PQ)
        for text in ("", "quiet -> -", "quiet -> -\nreap 1 -> -\nstop", "reap 1 -> -", "give p a -> 1\nquiet -> -"):
            with self.subTest(text=text), self.assertRaises(NotClosed):
                nodes(setup, history_in(setup, text))

    def test_no_sums(self):
        for word, what, lines in (("end", "a", ["put a nop", "quiet -> -"]), ("letters", "p", ["give p a -> 1", "quiet -> -"]), ("reap", 1, ["quiet -> -", "reap 1 -> #0 freed 0 ; #0 freed 1"])):
            with self.assertRaises(NoSums) as caught:
                nodes(*closed(PQ, lines))
            self.assertEqual((caught.exception.word, caught.exception.what), (word, what))


class ArgumentsTest(unittest.TestCase):
    def test_lists_and_names_of_arguments(self):
        setup, history = closed(PQ, ["put r read #0 1 | u update 0 q | l cancelall", "quiet -> -", "reap 9 -> u turn 1 ; r cancelled l yes @0 ; l all r yes / ; #0 freed 0"])
        wanted = nodes(setup, history)
        given = as_lists(history)
        copies = deepcopy(given)
        self.assertEqual(repr(nodes(as_lists(setup), given)), repr(wanted))
        self.assertEqual(given, copies)
        self.assertEqual(nodes(history=history, setup=setup), wanted)

    def test_every_list_is_new(self):
        setup, history = closed(PQ, ["put a nop", "quiet -> -", "reap 1 -> a done"])
        told = nodes(setup, history)
        told.clear()
        self.assertEqual(len(nodes(setup, history)), 6)

    def test_the_history_of_a_ring(self):
        ring = Ring((2, 4, ("p",), ("p",)))
        do(ring, ("put", (("a", ("reads", ("slot", 0), 1), ("link",)), ("t", ("linktimeout", 2), ()), ("n", NOP, ()))), ("give", "p", "a"))
        do(ring, ("begin", "a"), ("fire", "a", 0), ("clock", 2), ("end", "t"))
        self.assertEqual(nodes((2, 4, ("p",), ("p",)), close(ring))[:3], [
            (("begin", "a"), ("begin", "t")), (("end", "a"), ("end", "n"), ("end", "t")), (("fire", "a", 0),)])


if __name__ == "__main__":
    unittest.main()
