import unittest

from endonce.ring import Ring
from things import do, told_by

SETUP = (9, 4, ("p", "q"), ("p", None))
PIPE = ("pipe", "p")


def begun(*requests, setup=SETUP):
    """A Ring in which these requests, of one lot, have begun, the first ones first, as far as a begin is possible."""
    ring = Ring(setup)
    ring.put(requests)
    for request in requests:
        if ("begin", request[0]) in ring.possible():
            do(ring, ("begin", request[0]))
    return ring


def ended(deed, *moves, flags=()):
    """The results of a request with this deed, which begins, and then these moves are done."""
    ring = begun(("a", deed, flags))
    do(ring, *moves)
    return [(result, more) for _, result, _, more in told_by(ring)]


class BeginTest(unittest.TestCase):
    def begins(self, ring):
        return [step[1] for step in ring.possible() if step[0] == "begin"]

    def test_neither_begun_nor_ended(self):
        ring = Ring(SETUP)
        self.assertEqual(ring.possible(), [])
        ring.put((("a", ("read", PIPE, 1), ()), ("b", ("timeout", 5), ()), ("c", ("cancel", "a"), ())))
        self.assertEqual(self.begins(ring), ["a", "b", "c"])
        do(ring, ("begin", "b"))
        self.assertEqual(self.begins(ring), ["a", "c"])
        do(ring, ("begin", "c"))
        self.assertEqual(self.begins(ring), [])
        self.assertEqual(ring.unended(), (("b", True, None),))

    def test_no_begin_of_a_linktimeout(self):
        ring = Ring(SETUP)
        ring.put((("a", ("read", PIPE, 1), ("link",)), ("t", ("linktimeout", 0), ()), ("b", ("nop",), ())))
        self.assertEqual(ring.possible(), [("begin", "a")])
        do(ring, ("begin", "a"))
        self.assertEqual(ring.possible(), [("end", "t")])
        self.assertEqual(ring.unended(), (("a", True, None), ("b", False, None), ("t", True, None)))

    def test_a_linktimeout_that_has_ended_does_not_begin(self):
        ring = Ring(SETUP)
        ring.put((("a", ("read", PIPE, 1), ("link",)), ("t", ("linktimeout", 0), ())))
        ring.put((("c", ("cancel", "t"), ()),))
        do(ring, ("begin", "c"), ("begin", "a"))
        self.assertEqual(ring.unended(), (("a", True, None),))
        self.assertEqual(told_by(ring), [("t", ("cancelled", "c", False), None, False), ("c", ("took", False), None, False)])

    def test_the_member_directly_ahead_has_ended(self):
        ring = Ring(SETUP)
        ring.put((("a", ("work", True), ("link",)), ("b", ("work", True), ("hard",)), ("c", ("nop",), ()), ("d", ("nop",), ())))
        self.assertEqual(self.begins(ring), ["a", "d"])
        do(ring, ("begin", "a"))
        self.assertEqual(self.begins(ring), ["d"])
        do(ring, ("end", "a"))
        self.assertEqual(self.begins(ring), ["b", "d"])
        do(ring, ("begin", "b"), ("end", "b"))
        self.assertEqual(self.begins(ring), ["c", "d"])

    def test_drain_waits_for_all_ahead(self):
        ring = Ring(SETUP)
        ring.put((("a", ("read", PIPE, 1), ("link",)), ("t", ("linktimeout", 9), ()), ("b", ("nop",), ())))
        ring.put((("x", ("timeout", 1), ()), ("d", ("nop",), ("drain",)), ("e", ("nop",), ())))
        self.assertEqual(self.begins(ring), ["a", "x"])
        do(ring, ("begin", "x"), ("begin", "a"), ("clock", 1), ("end", "x"))
        self.assertEqual(self.begins(ring), [])
        do(ring, ("give", "p", "a"), ("end", "a"))
        self.assertEqual(self.begins(ring), ["b"])
        do(ring, ("begin", "b"))
        self.assertEqual(self.begins(ring), ["d"])
        do(ring, ("begin", "d"))
        self.assertEqual(self.begins(ring), ["e"])

    def test_all_behind_wait_for_drain_but_those_of_its_chain(self):
        ring = Ring(SETUP)
        ring.put((("d", ("work", True), ("drain", "link")), ("m", ("work", True), ()), ("e", ("nop",), ())))
        ring.put((("f", ("nop",), ()), ("g", ("nop",), ("drain",))))
        self.assertEqual(self.begins(ring), ["d"])
        do(ring, ("begin", "d"), ("end", "d"))
        self.assertEqual(self.begins(ring), ["m", "e", "f"])
        do(ring, ("begin", "e"), ("begin", "f"))
        self.assertEqual(self.begins(ring), ["m"])
        do(ring, ("begin", "m"), ("end", "m"))
        self.assertEqual(self.begins(ring), ["g"])

    def test_a_drain_that_still_waits_holds_up_those_behind(self):
        ring = Ring(SETUP)
        ring.put((("r", ("read", PIPE, 1), ()), ("d", ("nop",), ("drain", "link")), ("m", ("nop",), ()), ("e", ("nop",), ())))
        do(ring, ("begin", "r"))
        self.assertEqual(ring.possible(), [])
        do(ring, ("give", "p", "a"), ("end", "r"), ("begin", "d"), ("begin", "m"))
        self.assertEqual(self.begins(ring), ["e"])

    def test_a_drain_that_ended_without_begin_holds_up_nobody(self):
        ring = Ring(SETUP)
        ring.put((("r", ("read", PIPE, 1), ()), ("d", ("nop",), ("drain",)), ("e", ("nop",), ())))
        ring.put((("x", ("nop",), ()),))
        do(ring, ("begin", "r"))
        self.assertEqual(self.begins(ring), [])
        do(ring, ("stop",))
        self.assertEqual(self.begins(ring), [])
        self.assertEqual(ring.unended(), ())


class AtOnceTest(unittest.TestCase):
    def test_nop(self):
        self.assertEqual(ended(("nop",)), [(("done",), False)])

    def test_silent(self):
        for deed, steps in ((("nop",), ()), (("work", True), (("end", "a"),))):
            ring = begun(("a", deed, ("silent",)))
            do(ring, *steps)
            self.assertEqual((ring.unended(), ring.possible(), ring.quiet()), ((), [], ()))

    def test_silent_tells_ends_that_are_not_good(self):
        for deed in (("nop",), ("work", True)):
            ring = Ring(SETUP)
            ring.put((("a", deed, ("link", "silent")), ("b", deed, ("silent",)), ("c", ("cancel", "a"), ())))
            do(ring, ("begin", "c"))
            self.assertEqual(told_by(ring), [
                ("a", ("cancelled", "c", False), None, False), ("b", ("broken", "a"), None, False), ("c", ("took", False), None, False)])
            ring = Ring(SETUP)
            ring.put((("a", deed, ("silent",)),))
            ring.stop()
            self.assertEqual(told_by(ring), [("a", ("stopped", False), None, False)])

    def test_update(self):
        ring = begun(("a", ("update", 0, "q"), ()), ("b", ("update", 1, None), ()), ("c", ("update", 0, None), ()))
        self.assertEqual([row[:2] for row in told_by(ring)], [("a", ("turn", 1)), ("b", ("turn", 1)), ("c", ("turn", 2))])
        self.assertEqual((ring.turn(0), ring.turn(1)), ((2, None), (1, None)))

    def test_shut(self):
        ring = begun(("a", ("shut", PIPE), ()), ("b", ("shut", PIPE), ()), ("c", ("shut", ("pipe", "q")), ()), ("d", ("shut", ("slot", 0)), ()))
        self.assertEqual(told_by(ring), [
            ("a", ("done",), None, False), ("b", ("shut already", "a"), None, False), ("c", ("done",), None, False),
            ("d", ("shut already", "a"), 0, False)])

    def test_shut_of_a_slot(self):
        ring = begun(("a", ("shut", ("slot", 0)), ()), ("b", ("shut", PIPE), ()))
        self.assertEqual(told_by(ring), [("a", ("done",), 0, False), ("b", ("shut already", "a"), None, False)])

    def test_bare(self):
        for deed in (("read", ("slot", 1), 1), ("reads", ("slot", 1), 1), ("write", ("slot", 1), "a"), ("shut", ("slot", 1))):
            ring = begun(("a", deed, ("link",)), ("t", ("linktimeout", 0), ()), ("b", ("nop",), ()))
            self.assertEqual(ring.unended(), ())
            self.assertEqual(told_by(ring), [
                ("a", ("bare",), 0, False), ("t", ("off",), None, False), ("b", ("broken", "a"), None, False)])


class EndTest(unittest.TestCase):
    def test_work(self):
        self.assertEqual(ended(("work", True)), [])
        self.assertEqual(ended(("work", True), ("end", "a")), [(("done",), False)])
        self.assertEqual(ended(("work", False), ("end", "a")), [(("bad",), False)])

    def test_nothing_ends_that_has_not_begun(self):
        ring = Ring(SETUP)
        ring.put((("a", ("work", True), ()), ("b", ("timeout", 0), ()), ("c", ("write", PIPE, "a"), ()), ("d", ("read", PIPE, 1), ())))
        ring.give("p", "a")
        self.assertEqual([step[0] for step in ring.possible()], ["begin"] * 4)

    def test_timeout(self):
        ring = begun(("a", ("timeout", 3), ()), ("b", ("timeout", 0), ()))
        self.assertEqual(ring.possible(), [("end", "b")])
        do(ring, ("clock", 2))
        self.assertEqual(ring.possible(), [("end", "b")])
        do(ring, ("clock", 3))
        self.assertEqual(ring.possible(), [("end", "a"), ("end", "b")])
        do(ring, ("end", "b"), ("end", "a"))
        self.assertEqual(told_by(ring), [("b", ("time",), None, False), ("a", ("time",), None, False)])

    def test_read(self):
        for many, text in ((1, "a"), (2, "ab"), (3, "abc"), (9, "abc")):
            self.assertEqual(ended(("read", PIPE, many), ("give", "p", "abc"), ("end", "a")), [(("text", "p", 0, text), False)])
        self.assertEqual(
            ended(("read", PIPE, 2), ("give", "p", "abc"), ("take", "p", 2), ("end", "a")), [(("text", "p", 2, "c"), False)])

    def test_read_waits_for_letters(self):
        ring = begun(("a", ("read", PIPE, 2), ()))
        self.assertEqual(ring.possible(), [])
        do(ring, ("give", "q", "a"))
        self.assertEqual(ring.possible(), [])
        do(ring, ("give", "p", "a"))
        self.assertEqual(ring.possible(), [("end", "a")])
        do(ring, ("take", "p", 1))
        self.assertEqual(ring.possible(), [])

    def test_read_of_a_shut_pipe(self):
        ring = begun(("h", ("shut", PIPE), ()), ("a", ("read", PIPE, 2), ()), ("b", ("reads", PIPE, 2), ("pick",)))
        do(ring, ("end", "b"), ("end", "a"))
        self.assertEqual([row[:2] for row in told_by(ring)], [("h", ("done",)), ("b", ("end", "p", 0, "h")), ("a", ("end", "p", 0, "h"))])

    def test_letters_of_a_shut_pipe_are_read_first(self):
        ring = Ring(SETUP)
        do(ring, ("give", "p", "abc"), ("put", (("h", ("shut", PIPE), ()), ("a", ("read", PIPE, 2), ()), ("b", ("read", PIPE, 2), ()), ("c", ("read", PIPE, 2), ()))))
        do(ring, ("begin", "h"), ("begin", "a"), ("begin", "b"), ("begin", "c"), ("end", "a"), ("end", "b"), ("end", "c"))
        self.assertEqual([row[1] for row in told_by(ring)][1:], [("text", "p", 0, "ab"), ("text", "p", 2, "c"), ("end", "p", 3, "h")])

    def test_reads(self):
        ring = begun(("a", ("reads", PIPE, 2), ()))
        self.assertEqual(ring.possible(), [])
        do(ring, ("give", "p", "abc"))
        self.assertEqual(ring.possible(), [("fire", "a", 0)])
        do(ring, ("fire", "a", 0))
        self.assertEqual(ring.possible(), [("fire", "a", 1), ("post", "a", 0)])
        do(ring, ("fire", "a", 1))
        self.assertEqual(ring.possible(), [("post", "a", 0)])
        self.assertEqual(ring.unended(), (("a", True, None),))
        self.assertEqual(told_by(ring), [("a", ("text", "p", 0, "ab"), None, True), ("a", ("text", "p", 2, "c"), None, True)])
        do(ring, ("give", "p", "d"))
        self.assertEqual(ring.possible(), [("fire", "a", 2)])
        do(ring, ("put", (("h", ("shut", PIPE), ()),)), ("begin", "h"))
        self.assertEqual(ring.possible()[0], ("fire", "a", 2))
        do(ring, ("fire", "a", 2))
        self.assertEqual(ring.possible()[0], ("end", "a"))
        do(ring, ("end", "a"))
        self.assertEqual(told_by(ring), [
            ("h", ("done",), None, False), ("a", ("text", "p", 3, "d"), None, True), ("a", ("end", "p", 4, "h"), None, False)])

    def test_pick(self):
        ring = Ring(SETUP)
        do(ring, ("lend", 2), ("give", "p", "abcdef"), ("put", (("a", ("reads", PIPE, 2), ("pick",)), ("b", ("read", PIPE, 1), ("pick",)))))
        do(ring, ("begin", "a"), ("begin", "b"))
        self.assertEqual(ring.possible(), [("fire", "a", 0), ("end", "b")])
        do(ring, ("fire", "a", 0), ("fire", "a", 1))
        self.assertEqual(ring.buffers(), (2, 2))
        self.assertEqual(ring.possible()[:2], [("end", "a"), ("end", "b")])
        do(ring, ("end", "a"), ("lend", 1), ("end", "b"))
        self.assertEqual(ring.buffers(), (3, 3))
        self.assertEqual(told_by(ring), [
            ("a", ("picked", "p", 0, "ab", 0), None, True), ("a", ("picked", "p", 2, "cd", 1), None, True),
            ("a", ("no buffer", "p", 4, 2), None, False), ("b", ("picked", "p", 4, "e", 2), None, False)])
        self.assertEqual(ring.letters("p"), (5, "f"))

    def test_no_buffer(self):
        for word in ("read", "reads"):
            ring = begun(("a", (word, PIPE, 2), ("pick",)))
            self.assertEqual(ring.possible(), [])
            do(ring, ("give", "p", "abc"), ("take", "p", 1))
            self.assertEqual(ring.possible(), [("end", "a")])
            do(ring, ("end", "a"))
            self.assertEqual(told_by(ring), [("a", ("no buffer", "p", 1, 0), None, False)])
            self.assertEqual(ring.letters("p"), (1, "bc"))

    def test_pick_of_a_shut_pipe_without_letters_ends(self):
        ring = begun(("h", ("shut", PIPE), ()), ("a", ("read", PIPE, 2), ("pick",)))
        do(ring, ("end", "a"))
        self.assertEqual(told_by(ring)[1][1], ("end", "p", 0, "h"))

    def test_write(self):
        ring = begun(("a", ("write", PIPE, "abc"), ()), ("b", ("write", PIPE, "de"), ()), ("c", ("write", PIPE, "f"), ()))
        self.assertEqual(ring.possible(), [("end", "a"), ("end", "b"), ("end", "c")])
        do(ring, ("end", "a"))
        self.assertEqual(ring.possible(), [("end", "c"), ("post", "a", 0)])
        do(ring, ("end", "c"), ("take", "p", 1))
        self.assertEqual(ring.possible()[0], ("post", "a", 0))
        do(ring, ("take", "p", 1))
        self.assertEqual(ring.possible()[0], ("end", "b"))
        do(ring, ("end", "b"))
        self.assertEqual([row[1] for row in told_by(ring)], [("wrote", "p", 0), ("wrote", "p", 3), ("wrote", "p", 4)])
        self.assertEqual(ring.letters("p"), (2, "cfde"))

    def test_a_text_longer_than_room(self):
        ring = begun(("a", ("write", PIPE, "abcde"), ()), ("b", ("write", PIPE, "abcd"), ()))
        self.assertEqual(ring.possible(), [("end", "b")])
        do(ring, ("end", "b"), ("put", (("h", ("shut", PIPE), ()),)), ("begin", "h"), ("end", "a"))
        self.assertEqual([row[1] for row in told_by(ring)], [("wrote", "p", 0), ("done",), ("broken pipe", "p", "h")])
        self.assertEqual(ring.letters("p"), (0, "abcd"))

    def test_write_to_a_shut_pipe(self):
        ring = begun(("h", ("shut", PIPE), ()), ("a", ("write", PIPE, "a"), ()))
        do(ring, ("end", "a"))
        self.assertEqual(told_by(ring)[1][1], ("broken pipe", "p", "h"))
        self.assertEqual(ring.letters("p"), (0, ""))

    def test_letters_that_are_given_whatever_the_room(self):
        ring = begun(("a", ("write", PIPE, "a"), ()))
        do(ring, ("give", "p", "abcdef"), ("give", "p", "abcdef"))
        self.assertEqual(ring.possible(), [])
        do(ring, ("take", "p", 8))
        self.assertEqual(ring.possible(), [])
        do(ring, ("take", "p", 1))
        self.assertEqual(ring.possible(), [("end", "a")])


class LinktimeoutTest(unittest.TestCase):
    def ring(self, deed, flags=("link",), when=3):
        return begun(("a", deed, flags), ("t", ("linktimeout", when), ()), ("b", ("nop",), ()))

    def test_its_time_comes_by_the_clock(self):
        ring = self.ring(("read", PIPE, 1))
        self.assertEqual(ring.possible(), [])
        do(ring, ("clock", 2))
        self.assertEqual(ring.possible(), [])
        do(ring, ("clock", 3))
        self.assertEqual(ring.possible(), [("end", "t")])

    def test_it_ends_its_request(self):
        for deed in (("read", PIPE, 1), ("reads", PIPE, 1), ("write", PIPE, "abcde"), ("timeout", 9)):
            ring = self.ring(deed)
            do(ring, ("clock", 3), ("end", "t"))
            self.assertEqual(told_by(ring), [
                ("a", ("cancelled", "t", True), None, False), ("t", ("time",), None, False), ("b", ("broken", "a"), None, False)])

    def test_a_hard_request_goes_on_to_the_next(self):
        ring = self.ring(("timeout", 9), ("hard",))
        do(ring, ("clock", 3), ("end", "t"), ("begin", "b"))
        self.assertEqual([row[1] for row in told_by(ring)], [("cancelled", "t", True), ("time",), ("done",)])

    def test_a_work_goes_on(self):
        ring = self.ring(("work", True))
        do(ring, ("clock", 3), ("end", "t"))
        self.assertEqual(ring.unended(), (("a", True, None), ("b", False, None)))
        do(ring, ("end", "a"), ("begin", "b"))
        self.assertEqual([row[:2] for row in told_by(ring)], [("t", ("late",)), ("a", ("done",)), ("b", ("done",))])

    def test_off(self):
        for deed in (("read", PIPE, 1), ("work", True), ("nop",)):
            ring = Ring(SETUP)
            do(ring, ("give", "p", "a"), ("put", (("a", deed, ("link",)), ("t", ("linktimeout", 0), ()))), ("begin", "a"))
            if deed != ("nop",):
                do(ring, ("end", "a"))
            self.assertEqual([row[0] for row in told_by(ring)], ["a", "t"])
            self.assertEqual(ring.unended(), ())

    def test_its_own_end_breaks_nothing(self):
        ring = self.ring(("read", PIPE, 1))
        do(ring, ("put", (("c", ("cancel", "t"), ()),)), ("begin", "c"))
        self.assertEqual(ring.unended(), (("a", True, None), ("b", False, None)))
        do(ring, ("give", "p", "a"), ("end", "a"), ("begin", "b"))
        self.assertEqual([row[:2] for row in told_by(ring)], [
            ("t", ("cancelled", "c", True)), ("c", ("took", True)), ("a", ("text", "p", 0, "a")), ("b", ("done",))])


if __name__ == "__main__":
    unittest.main()
