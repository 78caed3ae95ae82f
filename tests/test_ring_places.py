import unittest

from endonce.ring import Ring
from things import do, posts, settle, told_by

PIPE = ("pipe", "p")
SLOT = ("slot", 0)
NOP = ("nop",)


class PipeTest(unittest.TestCase):
    def test_the_example_of_the_document(self):
        ring = Ring((2, 3, ("p",), ("p", None)))
        self.assertEqual(
            (ring.give("p", "abcd"), ring.take("p", 3), ring.take("p", 3), ring.take("p", 3), ring.letters("p")),
            (("given", 0), (0, "abc"), (3, "d"), (4, ""), (4, "")))
        self.assertEqual(
            (ring.lend(2), ring.buffers(), ring.turn(0), ring.turn(1), ring.holders(0, 0), ring.outstanding()),
            (None, (0, 2), (0, "p"), (0, None), [], 0))

    def test_places_go_on(self):
        ring = Ring((2, 3, ("p", "q"), ()))
        self.assertEqual((ring.give("p", "ab"), ring.give("p", "c"), ring.give("q", "z"), ring.letters("p")), (("given", 0), ("given", 2), ("given", 0), (0, "abc")))
        self.assertEqual((ring.take("p", 1), ring.give("p", "de"), ring.letters("p"), ring.letters("q")), ((0, "a"), ("given", 3), (1, "bcde"), (0, "z")))
        self.assertEqual((ring.take("p", 10 ** 6), ring.take("q", 1), ring.give("p", "f"), ring.letters("p")), ((1, "bcde"), (0, "z"), ("given", 5), (5, "f")))

    def test_a_shut_pipe_is_given_nothing_but_taken_from(self):
        ring = Ring((2, 3, ("p", "q"), ()))
        ring.give("p", "ab")
        ring.put((("h", ("shut", PIPE), ()),))
        ring.step(0)
        self.assertEqual((ring.give("p", "c"), ring.letters("p"), ring.give("q", "c")), (("shut", "h"), (0, "ab"), ("given", 0)))
        self.assertEqual((ring.take("p", 1), ring.take("p", 5), ring.take("p", 1)), ((0, "a"), (1, "b"), (2, "")))

    def test_takes_and_reads_share_the_letters(self):
        ring = Ring((9, 3, ("p",), ()))
        ring.put((("r", ("reads", PIPE, 2), ()), ("w", ("write", PIPE, "xy"), ())))
        do(ring, ("begin", "r"), ("begin", "w"), ("give", "p", "ab"), ("take", "p", 1), ("end", "w"), ("fire", "r", 0))
        self.assertEqual(ring.take("p", 5), (3, "y"))
        self.assertEqual([row[1] for row in told_by(ring)], [("wrote", "p", 2), ("text", "p", 1, "bx")])


class SlotTest(unittest.TestCase):
    def ring(self):
        ring = Ring((9, 3, ("p", "q"), ("p", None)))
        ring.put((("z", ("read", SLOT, 1), ()), ("b", ("reads", SLOT, 1), ()), ("u", ("update", 0, "q"), ()), ("a", ("read", SLOT, 1), ()),
                  ("v", ("update", 0, None), ()), ("w", ("update", 0, "p"), ())))
        return ring

    def test_the_turn_at_the_begin_counts(self):
        ring = self.ring()
        do(ring, ("begin", "z"), ("begin", "u"), ("begin", "a"))
        self.assertEqual((ring.turn(0), ring.turn(1)), ((1, "q"), (0, None)))
        self.assertEqual((ring.holders(0, 0), ring.holders(0, 1), ring.holders(0, 2), ring.holders(1, 0)), (["z"], ["a"], [], []))
        self.assertEqual(ring.unended(), (("a", True, 1), ("b", False, None), ("v", False, None), ("w", False, None), ("z", True, 0)))
        do(ring, ("give", "q", "x"))
        self.assertEqual([step for step in ring.possible() if step[0] == "end"], [("end", "a")])
        do(ring, ("give", "p", "y"), ("end", "z"), ("end", "a"))
        self.assertEqual([row for row in told_by(ring) if row[0] in "az"], [("z", ("text", "p", 0, "y"), 0, False), ("a", ("text", "q", 0, "x"), 1, False)])
        self.assertEqual((ring.holders(0, 0), ring.holders(0, 1)), ([], []))

    def test_holders_ascend(self):
        ring = self.ring()
        do(ring, ("begin", "z"), ("begin", "b"))
        self.assertEqual(ring.holders(0, 0), ["b", "z"])

    def test_the_turn_of_a_fire(self):
        ring = self.ring()
        do(ring, ("begin", "b"), ("begin", "u"), ("give", "p", "x"), ("fire", "b", 0))
        self.assertEqual(told_by(ring), [("u", ("turn", 1), None, False), ("b", ("text", "p", 0, "x"), 0, True)])

    def test_a_turn_is_freed_when_nobody_holds_it(self):
        ring = self.ring()
        do(ring, ("begin", "z"), ("begin", "b"))
        self.assertNotIn("free", [step[0] for step in ring.possible()])
        do(ring, ("begin", "u"))
        self.assertNotIn("free", [step[0] for step in ring.possible()])
        do(ring, ("give", "p", "x"), ("end", "z"))
        self.assertNotIn("free", [step[0] for step in ring.possible()])
        do(ring, ("put", (("c", ("cancel", "b"), ()),)), ("begin", "c"))
        self.assertIn(("free", 0, 0), ring.possible())
        do(ring, ("free", 0, 0))
        self.assertNotIn(("free", 0, 0), ring.possible())
        self.assertIn(("note", 0, 0), ring.possible())
        self.assertEqual(told_by(ring)[-1], (0, ("freed", 0), None, False))
        self.assertNotIn("free", [step[0] for step in ring.possible()])

    def test_no_turn_is_freed_that_has_no_pipe_or_is_the_last(self):
        ring = Ring((9, 3, ("p", "q"), ("p", None)))
        ring.put((("a", ("update", 1, "p"), ()), ("b", ("update", 1, None), ()), ("c", ("update", 1, "q"), ()), ("d", ("update", 0, "q"), ())))
        do(ring, ("begin", "a"), ("begin", "b"), ("begin", "c"), ("begin", "d"))
        self.assertEqual([step for step in ring.possible() if step[0] == "free"], [("free", 0, 0), ("free", 1, 1)])
        settle(ring)
        self.assertEqual([row[:2] for row in told_by(ring)][-2:], [(0, ("freed", 0)), (1, ("freed", 1))])

    def test_what_a_slot_has_by_its_turn_alone(self):
        ring = Ring((9, 3, ("p",), (None,)))
        ring.put((("a", ("write", SLOT, "x"), ()), ("u", ("update", 0, "p"), ()), ("b", ("write", SLOT, "y"), ()), ("v", ("update", 0, None), ()), ("c", ("shut", SLOT), ())))
        do(ring, ("begin", "a"), ("begin", "u"), ("begin", "b"), ("begin", "v"), ("begin", "c"), ("end", "b"))
        self.assertEqual(told_by(ring), [
            ("a", ("bare",), 0, False), ("u", ("turn", 1), None, False), ("v", ("turn", 2), None, False), ("c", ("bare",), 2, False),
            ("b", ("wrote", "p", 0), 1, False)])
        self.assertEqual((ring.letters("p"), ring.turn(0)), ((0, "y"), (2, None)))


class BufferTest(unittest.TestCase):
    def test_the_least_one_that_is_not_used(self):
        ring = Ring((9, 3, ("p",), ()))
        self.assertEqual(ring.buffers(), (0, 0))
        do(ring, ("lend", 2), ("lend", 1), ("give", "p", "abcd"), ("put", (("a", ("read", PIPE, 1), ("pick",)), ("b", ("reads", PIPE, 1), ("pick",)))))
        self.assertEqual(ring.buffers(), (0, 3))
        do(ring, ("begin", "a"), ("begin", "b"), ("fire", "b", 0), ("end", "a"), ("fire", "b", 1), ("end", "b"))
        self.assertEqual([row[1] for row in told_by(ring)], [
            ("picked", "p", 0, "a", 0), ("picked", "p", 1, "b", 1), ("picked", "p", 2, "c", 2), ("no buffer", "p", 3, 3)])
        self.assertEqual(ring.buffers(), (3, 3))
        ring.lend(1)
        self.assertEqual(ring.buffers(), (3, 4))


class QueueTest(unittest.TestCase):
    def ring(self, space, many):
        """A Ring in which so many nops have been posted."""
        ring = Ring((space, 3, (), ()))
        ring.put(tuple((tag, NOP, ()) for tag in "abcdefghij"[:many]))
        settle(ring)
        return ring

    def reaped(self, ring, most):
        return [(row[0], row[4]) for row in ring.reap(most)]

    def test_first_in_first_out(self):
        ring = Ring((9, 3, (), ()))
        ring.put((("a", NOP, ()), ("b", NOP, ()), ("c", NOP, ())))
        do(ring, ("begin", "b"), ("begin", "c"), ("post", "c", 0), ("begin", "a"), ("post", "a", 0), ("post", "b", 0))
        self.assertEqual(ring.reap(9), (("c", ("done",), None, False, False), ("a", ("done",), None, False, False), ("b", ("done",), None, False, False)))

    def test_nothing_is_reaped_that_is_not_posted(self):
        ring = Ring((9, 3, (), ()))
        ring.put((("a", NOP, ()),))
        self.assertEqual(ring.reap(1), ())
        ring.step(0)
        self.assertEqual((ring.outstanding(), ring.reap(1)), (0, ()))
        ring.step(0)
        self.assertEqual((ring.outstanding(), len(ring.reap(1)), ring.outstanding(), ring.reap(1)), (1, 1, 0, ()))

    def test_at_most_most_and_at_most_space(self):
        for space, most, many in ((3, 1, 1), (3, 2, 2), (3, 3, 3), (3, 9, 3), (1, 9, 1), (6, 9, 5), (2, 10 ** 6, 2)):
            ring = self.ring(space, 5)
            self.assertEqual(len(ring.reap(most)), many)
            self.assertEqual(ring.outstanding(), 5 - many)

    def test_kept(self):
        self.assertEqual(self.reaped(self.ring(5, 5), 9), [(tag, False) for tag in "abcde"])
        ring = self.ring(2, 5)
        self.assertEqual(self.reaped(ring, 1), [("a", False)])
        self.assertEqual(self.reaped(ring, 9), [("b", False), ("c", True)])
        self.assertEqual(self.reaped(ring, 9), [("d", True), ("e", True)])
        self.assertEqual(self.reaped(ring, 9), [])

    def test_kept_looks_at_the_moment_of_the_post(self):
        ring = Ring((1, 3, (), ()))
        ring.put((("a", NOP, ()), ("b", NOP, ()), ("c", NOP, ())))
        do(ring, ("begin", "a"), ("begin", "b"), ("begin", "c"), ("post", "a", 0), ("reap", 1), ("post", "b", 0), ("post", "c", 0))
        self.assertEqual((self.reaped(ring, 9), self.reaped(ring, 9)), ([("b", False)], [("c", True)]))

    def test_busy_if_the_backlog_is_not_empty(self):
        ring = self.ring(2, 2)
        self.assertIsNone(ring.put((("x", NOP, ()),)))
        ring.step(0)
        self.assertIsNone(ring.put((("y", NOP, ()),)))
        ring.step(1)
        self.assertEqual(ring.outstanding(), 3)
        self.assertEqual(ring.put((("z", NOP, ()), ("w", NOP, ()))), "busy")
        self.assertEqual(ring.unended(), (("y", False, None),))
        self.assertEqual(ring.possible(), [("begin", "y")])
        ring.reap(1)
        self.assertIsNone(ring.put((("v", NOP, ()),)))
        self.assertEqual(ring.possible(), [("begin", "y"), ("begin", "v")])

    def test_stopped_goes_ahead_of_busy(self):
        ring = self.ring(1, 3)
        self.assertEqual(ring.put((("y", NOP, ()),)), "busy")
        ring.stop()
        self.assertEqual(ring.put((("z", NOP, ()),)), "stopped")

    def test_posts_of_one_request_in_order(self):
        ring = Ring((9, 3, ("p",), ()))
        ring.give("p", "ab")
        ring.put((("s", ("reads", PIPE, 1), ()), ("n", NOP, ()), ("h", ("shut", PIPE), ())))
        do(ring, ("begin", "s"), ("fire", "s", 0), ("fire", "s", 1), ("begin", "h"), ("end", "s"), ("begin", "n"))
        self.assertEqual(ring.possible(), [("post", "s", 0), ("post", "h", 0), ("post", "n", 0)])
        do(ring, ("post", "n", 0), ("post", "s", 0))
        self.assertEqual(ring.possible(), [("post", "s", 1), ("post", "h", 0)])
        do(ring, ("post", "s", 1))
        self.assertEqual(ring.possible(), [("post", "h", 0), ("post", "s", 2)])
        posts(ring)
        self.assertEqual([row[0] for row in ring.reap(9)], ["n", "s", "s", "h", "s"])


class UserEventTest(unittest.TestCase):
    def test_what_each_one_is_told(self):
        ring = Ring((2, 3, ("p",), ("p",)))
        self.assertEqual(
            (ring.put((("a", NOP, ()),)), ring.reap(1), ring.clock(1), ring.give("p", "a"), ring.take("p", 1), ring.lend(1), ring.stop()),
            (None, (), None, ("given", 0), (0, "a"), None, None))
        settle(ring)
        self.assertEqual(ring.quiet(), ())

    def test_quiet_tells_the_unended_ones(self):
        ring = Ring((2, 3, ("p",), ("p", None)))
        ring.put((("z", ("read", SLOT, 1), ("link",)), ("t", ("linktimeout", 5), ()), ("m", NOP, ()), ("a", ("timeout", 3), ()), ("d", NOP, ("drain",))))
        self.assertEqual(ring.unended(), (("a", False, None), ("d", False, None), ("m", False, None), ("t", False, None), ("z", False, None)))
        settle(ring)
        told = (("a", True, None), ("d", False, None), ("m", False, None), ("t", True, None), ("z", True, 0))
        self.assertEqual((ring.unended(), ring.quiet(), ring.quiet()), (told, told, told))
        ring.clock(5)
        settle(ring)
        self.assertEqual((ring.unended(), ring.quiet()), ((), ()))


if __name__ == "__main__":
    unittest.main()
