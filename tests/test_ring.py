import unittest
from copy import deepcopy

from endonce.data import is_history
from endonce.errors import BadPair, NoStep, NotQuiet
from endonce.ring import Ring
from things import DEEP, ODD, as_lists, close, do, settle

SETUP = (2, 4, ("p", "q"), ("p", None))
PIPE = ("pipe", "p")
NOP = ("nop",)
LOT = (("a", ("read", ("slot", 0), 2), ("link",)), ("n", NOP, ()))


def all_of(ring):
    """All that a Ring tells of its state."""
    return repr((
        ring.possible(), ring.history(), ring.unended(), [ring.letters(pipe) for pipe in ("p", "q")], [ring.turn(slot) for slot in (0, 1)],
        [ring.holders(slot, number) for slot in (0, 1) for number in (0, 1, 2)], ring.buffers(), ring.outstanding()))


def busy_ring():
    """A Ring with something of everything in it."""
    ring = Ring(SETUP)
    do(ring, ("put", (("s", ("reads", PIPE, 1), ()), ("a", ("read", ("slot", 0), 2), ("link",)), ("t", ("linktimeout", 5), ()), ("n", NOP, ()), ("u", ("update", 0, "q"), ()))))
    do(ring, ("put", (("x", NOP, ()), ("y", NOP, ()), ("z", NOP, ()))), ("give", "p", "abc"), ("lend", 3), ("clock", 4))
    do(ring, ("begin", "s"), ("fire", "s", 0), ("begin", "u"), ("begin", "x"), ("post", "s", 0), ("post", "u", 0), ("free", 0, 0))
    do(ring, ("note", 0, 0), ("put", (("b", NOP, ()),)), ("take", "p", 1), ("give", "q", "z"))
    return ring


class ExampleTest(unittest.TestCase):
    def test_the_example_of_the_document(self):
        setup = (2, 4, ("p",), ("p",))
        ring = Ring(setup)
        self.assertEqual(
            (ring.put(LOT), ring.possible(), ring.step(0), ring.possible(), ring.give("p", "xyz"), ring.possible(), ring.step(0)),
            (None, [("begin", "a")], ("begin", "a"), [], ("given", 0), [("end", "a")], ("end", "a")))
        self.assertEqual(
            (ring.possible(), ring.step(1), ring.step(0), ring.unended(), ring.possible()),
            ([("begin", "n"), ("post", "a", 0)], ("post", "a", 0), ("begin", "n"), (), [("post", "n", 0)]))
        with self.assertRaises(NotQuiet) as caught:
            ring.quiet()
        self.assertEqual(caught.exception.steps, [("post", "n", 0)])
        self.assertEqual(
            (ring.step(0), ring.quiet(), ring.reap(9), ring.take("p", 5)),
            (("post", "n", 0), (), (("a", ("text", "p", 0, "xy"), 0, False, False), ("n", ("done",), None, False, False)), (2, "z")))


class PossibleTest(unittest.TestCase):
    def test_the_order_of_the_steps(self):
        ring = Ring((9, 4, ("p", "q"), ("p", "q")))
        do(ring, ("put", (("z", ("reads", PIPE, 1), ()), ("y", ("work", True), ()), ("x", ("reads", PIPE, 1), ()), ("w", ("timeout", 0), ()))))
        do(ring, ("put", (("e", ("update", 1, None), ()), ("d", ("update", 0, "q"), ()), ("c", ("update", 0, "p"), ()), ("l", NOP, ()), ("k", NOP, ()))))
        do(ring, ("give", "p", "a"), ("begin", "w"), ("begin", "x"), ("begin", "y"), ("begin", "z"), ("begin", "c"), ("begin", "e"), ("begin", "d"))
        self.assertEqual(ring.possible(), [
            ("begin", "l"), ("begin", "k"), ("fire", "z", 0), ("fire", "x", 0), ("end", "y"), ("end", "w"), ("free", 0, 0), ("free", 0, 1),
            ("free", 1, 0), ("post", "c", 0), ("post", "e", 0), ("post", "d", 0)])
        do(ring, ("free", 1, 0), ("end", "w"), ("free", 0, 0))
        self.assertEqual(ring.possible(), [
            ("begin", "l"), ("begin", "k"), ("fire", "z", 0), ("fire", "x", 0), ("end", "y"), ("free", 0, 1), ("post", "c", 0), ("post", "e", 0),
            ("post", "d", 0), ("note", 1, 0), ("post", "w", 0), ("note", 0, 0)])

    def test_what_is_told_in_one_step_by_the_order_of_the_puts(self):
        ring = Ring(SETUP)
        do(ring, ("put", (("z", ("timeout", 5), ("link",)), ("t", ("linktimeout", 9), ()), ("y", NOP, ()))), ("put", (("c", ("cancel", "z"), ()),)), ("begin", "c"))
        self.assertEqual(ring.possible(), [("post", "z", 0), ("post", "t", 0), ("post", "y", 0), ("post", "c", 0)])
        ring = Ring(SETUP)
        do(ring, ("put", (("z", ("timeout", 5), ("link",)), ("t", ("linktimeout", 1), ()), ("y", NOP, ()))), ("clock", 1), ("begin", "z"), ("end", "t"))
        self.assertEqual(ring.possible(), [("post", "z", 0), ("post", "t", 0), ("post", "y", 0)])

    def test_a_list_of_its_own(self):
        ring = busy_ring()
        steps = ring.possible()
        steps.clear()
        ring.holders(0, 0).append("a")
        self.assertEqual(all_of(ring), all_of(busy_ring()))


class ErrorTest(unittest.TestCase):
    def refused(self, ring, error, values, function, *given, **named):
        """Check that this raises the error, and that the ring is then as it was and goes on."""
        before = all_of(ring)
        twin = ring.twin()
        copies = deepcopy(given)
        with self.subTest(given=given), self.assertRaises(error) as caught:
            function(*given, **named)
        self.assertEqual(repr(vars(caught.exception)), repr(values))
        self.assertEqual(all_of(ring), before)
        self.assertEqual(ring, twin)
        self.assertEqual(repr(given), repr(copies))

    def test_no_user_event(self):
        ring = busy_ring()
        at = len(ring.history())
        for event in ODD + (
                ("nop",), ("put",), ("put", ()), ("put", NOP), ("reap",), ("reap", 0), ("reap", True), ("reap", "1"), ("reap", 1, 1), ("clock", 0),
                ("clock", None), ("give", "r", "a"), ("give", "p", ""), ("give", "p", "abcdefg"), ("give", "p"), ("take", "r", 1), ("take", "p", 0),
                ("lend", 0), ("lend", -1), ("quiet", 1), ("stop", 1), ["stop", []], [["stop"]], ("begin", "n"), ("post", "u", 0), ("user", 0), "quiet"):
            self.refused(ring, BadPair, {"at": at}, ring.do, event)

    def test_methods_with_what_is_no_user_event(self):
        ring = Ring(SETUP)
        for most in (0, -1, True, None, "1", (1,), [], DEEP):
            self.refused(ring, BadPair, {"at": 0}, ring.reap, most)
            self.refused(ring, BadPair, {"at": 0}, ring.clock, most)
            self.refused(ring, BadPair, {"at": 0}, ring.lend, most)
            self.refused(ring, BadPair, {"at": 0}, ring.take, "p", most)
        for pipe in ("r", "", 0, None, ("p",), PIPE, DEEP):
            self.refused(ring, BadPair, {"at": 0}, ring.take, pipe, 1)
            self.refused(ring, BadPair, {"at": 0}, ring.give, pipe, "a")
        for text in ("", "abcdefg", "A", 1, None, ("a",), DEEP):
            self.refused(ring, BadPair, {"at": 0}, ring.give, "p", text)
        for lot in ODD + ((("a", NOP, ("link",)),), (("a", NOP, ()), ("a", NOP, ())), (("c", ("cancel", "x"), ()),), (("c", ("cancel", "c"), ()),),
                          (("c", ("cancel", "d"), ()), ("d", NOP, ())), (("t", ("linktimeout", 1), ()),), (("a", ("read", ("slot", 2), 1), ()),)):
            self.refused(ring, BadPair, {"at": 0}, ring.put, lot)

    def test_no_script_with_those_ahead(self):
        ring = Ring(SETUP)
        do(ring, ("put", (("a", NOP, ()), ("b", NOP, ()), ("e", NOP, ()))), ("clock", 5))
        settle(ring)
        self.assertEqual(ring.put((("d", NOP, ()),)), "busy")
        self.refused(ring, BadPair, {"at": 3}, ring.put, (("a", NOP, ()),))
        self.refused(ring, BadPair, {"at": 3}, ring.put, (("f", NOP, ()), ("d", NOP, ())))
        self.refused(ring, BadPair, {"at": 3}, ring.put, (("c", ("cancel", "f"), ()), ("f", NOP, ())))
        self.refused(ring, BadPair, {"at": 3}, ring.clock, 5)
        self.refused(ring, BadPair, {"at": 3}, ring.do, ("clock", 4))
        ring.clock(6)
        ring.stop()
        self.refused(ring, BadPair, {"at": 5}, ring.stop)
        self.assertEqual(ring.put((("f", NOP, ()), ("c", ("cancel", "d"), ()))), "stopped")
        self.refused(ring, BadPair, {"at": 6}, ring.put, (("f", NOP, ()),))
        self.assertEqual(len(ring.history()), 6)

    def test_not_quiet(self):
        ring = busy_ring()
        self.refused(ring, NotQuiet, {"steps": ring.possible()}, ring.quiet)
        self.refused(ring, NotQuiet, {"steps": ring.possible()}, ring.do, ["quiet"])
        with self.assertRaises(NotQuiet) as caught:
            ring.quiet()
        caught.exception.steps.clear()
        self.assertEqual(ring, busy_ring())
        settle(ring)
        self.assertEqual(ring.quiet(), ring.unended())

    def test_no_other_event_waits_for_quiet(self):
        ring = busy_ring()
        self.assertEqual((ring.give("p", "quiet"), ring.take("p", 9)), (("given", 3), (2, "cquiet")))

    def test_a_bad_pair_is_told_ahead_of_not_quiet(self):
        ring = busy_ring()
        self.refused(ring, BadPair, {"at": len(ring.history())}, ring.do, ("quiet", 0))

    def test_no_step(self):
        ring = busy_ring()
        many = len(ring.possible())
        for index in (-1, -many, -10 ** 6, many, many + 1, 10 ** 6):
            self.refused(ring, NoStep, {"which": index}, ring.step, index)
        self.refused(Ring(SETUP), NoStep, {"which": 0}, Ring(SETUP).step, index=0)

    def test_it_goes_on(self):
        ring, other = busy_ring(), busy_ring()
        for bad in (("clock", 4), ("quiet",), ("quiet", 5), ("put", (("a", NOP, ()),)), ("put", (("f", NOP, ()), ("f", NOP, ())))):
            with self.assertRaises((BadPair, NotQuiet)):
                ring.do(bad)
        for both in (ring, other):
            both.reap(1)
            both.put((("f", NOP, ()),))
            close(both)
        self.assertEqual(ring, other)
        self.assertEqual(all_of(ring), all_of(other))


class ArgumentsTest(unittest.TestCase):
    def test_do_and_the_methods(self):
        ring, other = Ring(SETUP), Ring(SETUP)
        told = [ring.put(LOT), ring.reap(1), ring.clock(1), ring.give("p", "a"), ring.take("p", 1), ring.lend(1), ring.stop()]
        events = (("put", LOT), ("reap", 1), ("clock", 1), ("give", "p", "a"), ("take", "p", 1), ("lend", 1), ("stop",))
        self.assertEqual(told, [other.do(event) for event in events])
        settle(ring)
        settle(other)
        self.assertEqual(ring.quiet(), other.do(("quiet",)))
        self.assertEqual(ring, other)

    def test_arguments_by_name(self):
        ring, other = Ring(setup=SETUP), Ring(SETUP)
        told = [ring.put(lot=LOT), ring.reap(most=1), ring.clock(time=1), ring.give(text="a", pipe="p"), ring.take(many=1, pipe="p"), ring.lend(many=1)]
        self.assertEqual(told, [other.put(LOT), other.reap(1), other.clock(1), other.give("p", "a"), other.take("p", 1), other.lend(1)])
        self.assertEqual((ring.do(event=("stop",)), ring.step(index=0)), (other.stop(), other.step(0)))
        self.assertEqual(ring, other)
        self.assertEqual((ring.letters(pipe="p"), ring.turn(slot=0), ring.holders(number=0, slot=0)), ((1, ""), (0, "p"), []))

    def test_lists_for_tuples(self):
        ring, other = Ring(as_lists(SETUP)), Ring(SETUP)
        events = (("put", LOT), ("reap", 1), ("clock", 1), ("give", "p", "a"), ("take", "p", 1), ("lend", 1))
        for event in events:
            given = as_lists(event)
            self.assertEqual(ring.do(given), other.do(event))
            self.assertEqual(given, as_lists(event))
        lot = (("b", ("write", PIPE, "a"), ("link",)), ("t", ("linktimeout", 1), ()))
        self.assertEqual(ring.put(as_lists(lot)), other.put(lot))
        self.assertEqual(ring, other)
        self.assertEqual(repr(ring.history()), repr(other.history()))
        self.assertEqual(all_of(ring), all_of(other))

    def test_what_was_handed_in_may_be_changed_later(self):
        setup, lot, event = as_lists(SETUP), as_lists(LOT), as_lists(("put", (("b", ("read", ("slot", 0), 1), ()),)))
        ring, other = Ring(setup), Ring(SETUP)
        ring.put(lot)
        ring.do(event)
        other.put(LOT)
        other.put((("b", ("read", ("slot", 0), 1), ()),))
        setup[0], setup[2][0], setup[3][0] = 5, "z", None
        lot[0][0], lot[0][1][1][1], lot[1][1] = "z", 1, ["shut", ["pipe", "p"]]
        event[1][0][1][1][1] = 1
        event[1].clear()
        lot.pop()
        settle(ring)
        settle(other)
        self.assertEqual(ring, other)
        self.assertEqual(all_of(ring), all_of(other))


class HistoryTest(unittest.TestCase):
    def test_the_pairs(self):
        ring = Ring(SETUP)
        self.assertEqual(ring.history(), ())
        do(ring, ("put", LOT), ("give", "p", "a"), ("lend", 2))
        settle(ring)
        do(ring, ("quiet",), ("reap", 1))
        self.assertEqual(ring.history(), (
            (("put", LOT), None), (("give", "p", "a"), ("given", 0)), (("lend", 2), None), (("quiet",), ()),
            (("reap", 1), (("a", ("text", "p", 0, "a"), 0, False, False),))))
        self.assertTrue(is_history(SETUP, ring.history()))

    def test_it_is_not_changed_by_steps(self):
        ring = busy_ring()
        history = ring.history()
        settle(ring)
        self.assertEqual(ring.history(), history)

    def test_every_query_twice(self):
        ring = busy_ring()
        self.assertEqual(all_of(ring), all_of(ring))
        self.assertEqual(ring, busy_ring())


class TwinTest(unittest.TestCase):
    def test_it_is_equal_and_goes_its_own_way(self):
        ring = busy_ring()
        before = all_of(ring)
        twin = ring.twin()
        self.assertEqual(twin, ring)
        self.assertEqual(all_of(twin), before)
        do(twin, ("reap", 1), ("put", (("f", ("update", 0, None), ()), ("g", ("shut", PIPE), ()), ("h", ("cancel", "a"), ()))), ("lend", 1), ("clock", 9), ("give", "p", "x"))
        close(twin)
        twin.stop()
        self.assertEqual(all_of(ring), before)
        self.assertEqual(ring, busy_ring())
        self.assertNotEqual(ring, twin)

    def test_the_first_one_goes_its_own_way_too(self):
        ring = busy_ring()
        twin = ring.twin()
        do(ring, ("reap", 1), ("put", (("f", ("update", 0, None), ()), ("g", ("shut", PIPE), ()))), ("lend", 1), ("clock", 9), ("give", "p", "x"))
        close(ring)
        ring.stop()
        self.assertEqual(all_of(twin), all_of(busy_ring()))
        self.assertEqual(twin, busy_ring())

    def test_both_do_the_same_from_then_on(self):
        ring = busy_ring()
        twin = ring.twin()
        self.assertEqual(close(ring), close(twin))
        self.assertEqual(ring, twin)
        ring, twin = busy_ring(), busy_ring().twin()
        for both in (ring, twin):
            both.reap(1)
            both.stop()
            with self.assertRaises(BadPair):
                both.put((("b", NOP, ()),))
            with self.assertRaises(BadPair):
                both.stop()
            with self.assertRaises(BadPair):
                both.clock(4)
            both.put((("f", ("cancel", "b"), ()),))
        self.assertEqual(close(ring), close(twin))


class EqualTest(unittest.TestCase):
    def test_to_one_with_the_same_steps_and_events(self):
        self.assertTrue(Ring(SETUP) == Ring(as_lists(SETUP)))
        self.assertFalse(Ring(SETUP) != Ring(SETUP))
        self.assertTrue(busy_ring() == busy_ring())
        self.assertFalse(busy_ring() != busy_ring())

    def test_not_with_another_setup(self):
        for setup in ((3, 4, ("p", "q"), ("p", None)), (2, 5, ("p", "q"), ("p", None)), (2, 4, ("p",), ("p", None)), (2, 4, ("p", "q"), ("p",))):
            self.assertFalse(Ring(SETUP) == Ring(setup))
            self.assertTrue(Ring(SETUP) != Ring(setup))

    def test_not_with_other_events(self):
        ring, other = Ring(SETUP), Ring(SETUP)
        ring.lend(1)
        self.assertNotEqual(ring, other)
        other.lend(2)
        self.assertNotEqual(ring, other)

    def test_not_with_other_steps(self):
        lot = (("a", NOP, ()), ("b", NOP, ()))
        ring, other = Ring(SETUP), Ring(SETUP)
        do(ring, ("put", lot), ("begin", "a"))
        do(other, ("put", lot))
        self.assertNotEqual(ring, other)
        do(other, ("begin", "b"))
        self.assertNotEqual(ring, other)
        do(ring, ("begin", "b"))
        do(other, ("begin", "a"))
        self.assertNotEqual(ring, other)

    def test_not_with_the_same_steps_between_other_events(self):
        ring, other = Ring(SETUP), Ring(SETUP)
        do(ring, ("put", (("a", NOP, ()),)), ("lend", 1), ("begin", "a"))
        do(other, ("put", (("a", NOP, ()),)), ("begin", "a"), ("lend", 1))
        self.assertEqual(all_of(ring), all_of(other))
        self.assertNotEqual(ring, other)

    def test_to_nothing_else(self):
        ring = Ring(SETUP)
        for other in (None, 0, False, "", (), [], {}, SETUP, ring.history(), object(), Ring):
            self.assertFalse(ring == other)
            self.assertFalse(other == ring)
            self.assertTrue(ring != other)


if __name__ == "__main__":
    unittest.main()
