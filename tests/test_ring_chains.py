import unittest

from endonce.ring import Ring
from things import do, posts, told_by

SETUP = (20, 4, ("p", "q"), ("p", None))
PIPE = ("pipe", "p")
NOP = ("nop",)


def chain(deed, flag, *moves, others=(), ahead=()):
    """What becomes of the second member behind one with this deed and flag, after these moves: its result, or None."""
    ring = Ring(SETUP)
    if ahead:
        ring.put(ahead)
    ring.put((("a", deed, (flag,)), ("m", NOP, ())) + others)
    do(ring, *moves)
    while [step for step in ring.possible() if step[0] == "begin"]:
        do(ring, ring.possible()[0])
    rows = {row[0]: row[1] for row in told_by(ring)}
    return rows.get("m")


# Ways in which a request that has begun ends badly: its deed, what is put ahead of it, and the moves.
BAD = {
    "bad": (("work", False), (), (("begin", "a"), ("end", "a"))),
    "bare": (("read", ("slot", 1), 1), (), (("begin", "a"),)),
    "end": (("read", PIPE, 1), (("h", ("shut", PIPE), ()),), (("begin", "h"), ("begin", "a"), ("end", "a"))),
    "no buffer": (("reads", PIPE, 1), (), (("give", "p", "a"), ("begin", "a"), ("end", "a"))),
    "broken pipe": (("write", PIPE, "a"), (("h", ("shut", PIPE), ()),), (("begin", "h"), ("begin", "a"), ("end", "a"))),
    "shut already": (("shut", PIPE), (("h", ("shut", PIPE), ()),), (("begin", "h"), ("begin", "a"))),
    "none": (("cancel", "z"), (), (("begin", "a"),)),
    "late": (("cancel", "h"), (("h", ("work", True), ()),), (("begin", "h"), ("begin", "a"))),
    "gone": (("cancel", "h"), (("h", NOP, ()),), (("begin", "h"), ("begin", "a"))),
    "few letters": (("read", PIPE, 3), (), (("give", "p", "ab"), ("begin", "a"), ("end", "a"))),
    "few letters picked": (("read", PIPE, 3), (), (("lend", 1), ("give", "p", "ab"), ("begin", "a"), ("end", "a"))),
    "cancelled": (("timeout", 5), (), (("begin", "a"), ("put", (("c", ("cancel", "a"), ()),)), ("begin", "c"))),
}


class BreaksTest(unittest.TestCase):
    def ring(self, case, flag):
        deed, ahead, moves = BAD[case]
        ring = Ring(SETUP)
        if case == "none":
            # More than space is outstanding, so the put of z is told "busy".
            ring = Ring((1, 4, ("p", "q"), ("p", None)))
            do(ring, ("put", (("x", NOP, ()), ("y", NOP, ()))), ("begin", "x"), ("begin", "y"))
            posts(ring)
            self.assertEqual(ring.put((("z", NOP, ()),)), "busy")
            self.assertEqual((ring.reap(9)[0][0], ring.reap(9)[0][0]), ("x", "y"))
        if ahead:
            ring.put(ahead)
        flags = (flag, "pick") if case in ("no buffer", "few letters picked") else (flag,)
        ring.put((("a", deed, flags), ("m", NOP, ("link",)), ("t", ("linktimeout", 5), ()), ("n", NOP, ())))
        do(ring, *moves)
        return ring

    def test_a_bad_end_breaks_the_chain(self):
        for case in BAD:
            with self.subTest(case=case):
                ring = self.ring(case, "link")
                self.assertEqual([step for step in ring.possible() if step[0] == "begin"], [])
                self.assertEqual([row for row in told_by(ring) if row[0] in "mnt"], [
                    ("m", ("broken", "a"), None, False), ("t", ("off",), None, False), ("n", ("broken", "a"), None, False)])

    def test_but_not_of_one_with_hard_that_had_begun(self):
        for case in BAD:
            with self.subTest(case=case):
                ring = self.ring(case, "hard")
                self.assertIn(("begin", "m"), ring.possible())
                do(ring, ("begin", "m"), ("begin", "n"))
                self.assertEqual([row[1] for row in told_by(ring) if row[0] in "mn"], [("done",), ("done",)])

    def test_a_good_end_breaks_nothing(self):
        for deed, moves in (
                (NOP, (("begin", "a"),)), (("work", True), (("begin", "a"), ("end", "a"))),
                (("read", PIPE, 2), (("give", "p", "abc"), ("begin", "a"), ("end", "a"))),
                (("write", PIPE, "a"), (("begin", "a"), ("end", "a"))), (("shut", PIPE), (("begin", "a"),)),
                (("timeout", 0), (("begin", "a"), ("end", "a"))), (("update", 0, None), (("begin", "a"),)),
                (("cancelall",), (("begin", "a"),))):
            for flag in ("link", "hard"):
                self.assertEqual(chain(deed, flag, *moves), ("done",))

    def test_a_cancel_that_takes_breaks_nothing(self):
        lot = (("x", ("timeout", 5), ()),)
        self.assertEqual(chain(("cancel", "x"), "link", ("begin", "a"), ahead=lot), ("done",))

    def test_one_with_hard_that_had_not_begun_breaks_it(self):
        ring = Ring(SETUP)
        ring.put((("f", ("timeout", 5), ("hard",)), ("a", NOP, ("hard",)), ("m", NOP, ())))
        ring.put((("c", ("cancel", "a"), ()),))
        do(ring, ("begin", "f"), ("begin", "c"))
        self.assertEqual(told_by(ring), [
            ("a", ("cancelled", "c", False), None, False), ("m", ("broken", "a"), None, False), ("c", ("took", False), None, False)])
        self.assertEqual(ring.unended(), (("f", True, None),))

    def test_those_behind_are_broken_by_the_one_that_broke_and_none_twice(self):
        ring = Ring(SETUP)
        ring.put((("a", ("timeout", 5), ("link",)), ("b", NOP, ("hard",)), ("t", ("linktimeout", 1), ()), ("m", NOP, ("link",)), ("n", NOP, ())))
        ring.put((("c", ("cancel", "m"), ()), ("d", ("cancel", "a"), ())))
        do(ring, ("begin", "c"))
        self.assertEqual(told_by(ring), [
            ("m", ("cancelled", "c", False), None, False), ("n", ("broken", "m"), None, False), ("c", ("took", False), None, False)])
        do(ring, ("begin", "a"), ("begin", "d"))
        self.assertEqual(told_by(ring), [
            ("a", ("cancelled", "d", True), None, False), ("b", ("broken", "a"), None, False), ("t", ("off",), None, False),
            ("d", ("took", True), None, False)])
        self.assertEqual(ring.unended(), ())

    def test_another_chain_is_not_broken(self):
        ring = Ring(SETUP)
        ring.put((("a", ("work", False), ("link",)), ("b", NOP, ()), ("x", NOP, ("link",)), ("y", NOP, ())))
        do(ring, ("begin", "a"), ("end", "a"), ("begin", "x"), ("begin", "y"))
        self.assertEqual([row[:2] for row in told_by(ring)], [("a", ("bad",)), ("b", ("broken", "a")), ("x", ("done",)), ("y", ("done",))])


class CancelTest(unittest.TestCase):
    def ring(self, *requests):
        ring = Ring(SETUP)
        ring.put(requests)
        ring.put((("c", ("cancel", requests[0][0]), ()),))
        return ring

    def test_before_and_after_the_begin(self):
        for deed in (("read", PIPE, 1), ("reads", PIPE, 1), ("write", PIPE, "abcde"), ("timeout", 5)):
            ring = self.ring(("a", deed, ()))
            do(ring, ("begin", "c"))
            self.assertEqual(told_by(ring), [("a", ("cancelled", "c", False), None, False), ("c", ("took", False), None, False)])
            self.assertEqual(ring.possible(), [])
            ring = self.ring(("a", deed, ()))
            do(ring, ("begin", "a"), ("begin", "c"))
            self.assertEqual(told_by(ring), [("a", ("cancelled", "c", True), None, False), ("c", ("took", True), None, False)])
            self.assertEqual((ring.possible(), ring.unended()), ([], ()))

    def test_what_ends_at_once_is_taken_before_its_begin_alone(self):
        for deed in (NOP, ("work", False), ("shut", PIPE), ("update", 0, None), ("cancelall",)):
            ring = self.ring(("a", deed, ()))
            do(ring, ("begin", "c"))
            self.assertEqual(told_by(ring), [("a", ("cancelled", "c", False), None, False), ("c", ("took", False), None, False)])
        self.assertEqual((ring.letters("p"), ring.turn(0)), ((0, ""), (0, "p")))

    def test_gone(self):
        ring = self.ring(("a", NOP, ("silent",)))
        do(ring, ("begin", "a"), ("begin", "c"))
        self.assertEqual(told_by(ring), [("c", ("gone",), None, False)])

    def test_late(self):
        ring = self.ring(("a", ("work", True), ()))
        do(ring, ("begin", "a"), ("begin", "c"))
        self.assertEqual(told_by(ring), [("c", ("late",), None, False)])
        self.assertEqual(ring.possible(), [("end", "a")])

    def test_gone_of_a_work_that_has_ended(self):
        ring = self.ring(("a", ("work", True), ()))
        do(ring, ("begin", "a"), ("end", "a"), ("begin", "c"))
        self.assertEqual(told_by(ring)[1], ("c", ("gone",), None, False))

    def test_none_of_what_was_told_a_word(self):
        ring = Ring((1, 4, (), ()))
        ring.put((("x", NOP, ()), ("y", NOP, ())))
        do(ring, ("begin", "x"), ("begin", "y"))
        posts(ring)
        self.assertEqual(ring.put((("a", NOP, ()),)), "busy")
        ring.reap(1)
        ring.put((("c", ("cancel", "a"), ()), ("d", ("cancel", "x"), ())))
        do(ring, ("begin", "c"), ("begin", "d"))
        ring.reap(1)
        self.assertEqual(told_by(ring), [("c", ("none",), None, False), ("d", ("gone",), None, False)])

    def test_its_turn_is_told(self):
        ring = self.ring(("a", ("read", ("slot", 0), 1), ()))
        do(ring, ("begin", "a"), ("begin", "c"))
        self.assertEqual(told_by(ring)[0], ("a", ("cancelled", "c", True), 0, False))
        ring = self.ring(("a", ("read", ("slot", 0), 1), ()))
        do(ring, ("begin", "c"))
        self.assertEqual(told_by(ring)[0], ("a", ("cancelled", "c", False), None, False))

    def test_a_cancel_of_a_cancel(self):
        ring = Ring(SETUP)
        ring.put((("a", ("timeout", 5), ()), ("c", ("cancel", "a"), ()), ("d", ("cancel", "c"), ())))
        do(ring, ("begin", "d"))
        self.assertEqual(told_by(ring), [("c", ("cancelled", "d", False), None, False), ("d", ("took", False), None, False)])
        self.assertEqual(ring.possible(), [("begin", "a")])

    def test_a_cancel_of_its_own_chain_comes_too_late(self):
        ring = Ring(SETUP)
        ring.put((("a", ("timeout", 0), ("link",)), ("c", ("cancel", "a"), ())))
        do(ring, ("begin", "a"), ("end", "a"), ("begin", "c"))
        self.assertEqual([row[1] for row in told_by(ring)], [("time",), ("gone",)])

    def test_a_linktimeout_is_switched_off_with_its_request(self):
        ring = self.ring(("a", ("read", PIPE, 1), ("link",)), ("t", ("linktimeout", 5), ()))
        do(ring, ("begin", "c"))
        self.assertEqual(told_by(ring), [
            ("a", ("cancelled", "c", False), None, False), ("t", ("off",), None, False), ("c", ("took", False), None, False)])


class CancelallTest(unittest.TestCase):
    def test_all_ahead(self):
        ring = Ring(SETUP)
        ring.put((("z", ("read", ("slot", 0), 1), ()), ("w", ("work", True), ("link",)), ("u", ("linktimeout", 9), ()), ("m", NOP, ()),
                  ("v", ("work", True), ()), ("n", NOP, ())))
        ring.put((("r", ("read", PIPE, 1), ("link",)), ("t", ("linktimeout", 9), ()), ("s", NOP, ("link",)), ("l", ("cancelall",), ())))
        ring.put((("k", ("cancelall",), ()), ("x", ("timeout", 5), ()), ("y", NOP, ())))
        do(ring, ("begin", "z"), ("begin", "w"), ("begin", "v"), ("begin", "r"), ("begin", "x"), ("begin", "n"), ("begin", "k"))
        told = told_by(ring)
        self.assertEqual(told, [
            ("n", ("done",), None, False),
            ("z", ("cancelled", "k", True), 0, False), ("u", ("cancelled", "k", True), None, False), ("m", ("cancelled", "k", False), None, False),
            ("r", ("cancelled", "k", True), None, False), ("t", ("off",), None, False), ("s", ("cancelled", "k", False), None, False),
            ("l", ("cancelled", "k", False), None, False),
            ("k", ("all", (("l", False), ("m", False), ("r", True), ("s", False), ("u", True), ("z", True)), ("v", "w")), None, False)])
        self.assertEqual(ring.unended(), (("v", True, None), ("w", True, None), ("x", True, None), ("y", False, None)))

    def test_works_go_on_and_their_chain_is_ended(self):
        ring = Ring(SETUP)
        ring.put((("w", ("work", True), ("link",)), ("m", NOP, ())))
        ring.put((("k", ("cancelall",), ()),))
        do(ring, ("begin", "w"), ("begin", "k"), ("end", "w"))
        self.assertEqual(told_by(ring), [
            ("m", ("cancelled", "k", False), None, False), ("k", ("all", (("m", False),), ("w",)), None, False), ("w", ("done",), None, False)])

    def test_what_it_ends_is_not_broken(self):
        ring = Ring(SETUP)
        ring.put((("a", ("timeout", 5), ("link",)), ("b", NOP, ("hard",)), ("d", NOP, ())))
        ring.put((("k", ("cancelall",), ()),))
        do(ring, ("begin", "k"))
        self.assertEqual([row[1] for row in told_by(ring)], [("cancelled", "k", False)] * 3 + [("all", (("a", False), ("b", False), ("d", False)), ())])

    def test_with_nobody_ahead(self):
        ring = Ring(SETUP)
        ring.put((("a", NOP, ()), ("k", ("cancelall",), ("link",)), ("t", ("linktimeout", 0), ()), ("b", NOP, ())))
        do(ring, ("begin", "a"), ("begin", "k"), ("begin", "b"))
        self.assertEqual([row[1] for row in told_by(ring)], [("done",), ("all", (), ()), ("off",), ("done",)])

    def test_a_linktimeout_alone(self):
        ring = Ring(SETUP)
        ring.put((("w", ("work", True), ("link",)), ("t", ("linktimeout", 0), ())))
        ring.put((("k", ("cancelall",), ()),))
        do(ring, ("begin", "w"), ("end", "t"), ("begin", "k"))
        self.assertEqual([row[1] for row in told_by(ring)], [("late",), ("all", (), ("w",))])


class StopTest(unittest.TestCase):
    def test_all_but_works_that_have_begun_and_their_linktimeouts(self):
        ring = Ring(SETUP)
        ring.put((("z", ("read", ("slot", 0), 1), ()), ("w", ("work", False), ("link",)), ("u", ("linktimeout", 0), ()), ("m", NOP, ("hard",)),
                  ("o", NOP, ()), ("v", ("work", True), ()), ("n", NOP, ())))
        ring.put((("r", ("read", PIPE, 1), ("link",)), ("t", ("linktimeout", 0), ()), ("s", ("shut", ("slot", 0)), ())))
        do(ring, ("begin", "z"), ("begin", "w"), ("begin", "n"), ("begin", "r"))
        self.assertIsNone(ring.stop())
        self.assertEqual(told_by(ring), [
            ("n", ("done",), None, False),
            ("z", ("stopped", True), 0, False), ("m", ("stopped", False), None, False), ("o", ("stopped", False), None, False),
            ("v", ("stopped", False), None, False), ("r", ("stopped", True), None, False), ("t", ("off",), None, False),
            ("s", ("stopped", False), None, False)])
        self.assertEqual(ring.unended(), (("u", True, None), ("w", True, None)))
        self.assertEqual(ring.possible(), [("end", "w"), ("end", "u")])
        do(ring, ("end", "u"), ("end", "w"))
        self.assertEqual(told_by(ring), [("u", ("late",), None, False), ("w", ("bad",), None, False)])
        self.assertEqual(ring.quiet(), ())

    def test_with_nothing_to_stop(self):
        ring = Ring(SETUP)
        self.assertIsNone(ring.stop())
        self.assertEqual(ring.possible(), [])
        self.assertEqual(ring.give("p", "a"), ("given", 0))

    def test_puts_behind_it(self):
        ring = Ring(SETUP)
        ring.stop()
        self.assertEqual(ring.put((("a", NOP, ()),)), "stopped")
        self.assertEqual(ring.put((("c", ("cancel", "a"), ()),)), "stopped")
        self.assertEqual((ring.possible(), ring.unended()), ([], ()))


if __name__ == "__main__":
    unittest.main()
