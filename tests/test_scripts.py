import unittest

from endonce.data import is_script, tags
from things import DEEP, ODD, SETUP, as_lists, expect, spoiled

NOP = ("nop",)


def put(*requests):
    return ("put", requests)


def nop(tag):
    return (tag, NOP, ())


def cancel(tag, other):
    return (tag, ("cancel", other), ())


A = put(nop("a"))
CHAIN = put(("r", ("read", ("slot", 1), 2), ("drain", "link")), ("t", ("linktimeout", 5), ()), nop("u"))

GOOD_EVENTS = (
    A, CHAIN, ("reap", 1), ("reap", 10 ** 9), ("clock", 1), ("clock", 10 ** 9), ("give", "p", "a"),
    ("give", "q", "abcdef"), ("take", "p", 1), ("take", "q", 10 ** 9), ("lend", 1), ("lend", 10 ** 9), ("quiet",), ("stop",),
)

BAD_EVENTS = (
    (), ("",), ("nop",), ("no",), ("Quiet",), ("quiets",), (None,), (0,), (("quiet",),), (["quiet"],), ["quiet"], "quiet", None,
    0, True, DEEP, ("put",), ("put", ()), ("put", None), ("put", "a"), ("put", [nop("a")]), ("put", nop("a")), ("put", DEEP),
    ("put", (nop("a"),), None), ("put", (nop("a"), nop("a"))), ("put", (("a", NOP, ("link",)),)), ("put", nop("a"), nop("b")),
    ("put", (("a", ("read", ("pipe", "r"), 1), ()),)), ("put", (("a", ("update", 2, None), ()),)),
    ("put", (("a", ("write", ("slot", 2), "a"), ()),)),
    ("reap",), ("reap", 0), ("reap", -1), ("reap", True), ("reap", None), ("reap", "1"), ("reap", (1,)), ("reap", 1, 1),
    ("clock",), ("clock", 0), ("clock", -1), ("clock", True), ("clock", None), ("clock", "1"), ("clock", 1, 1),
    ("give",), ("give", "p"), ("give", "p", ""), ("give", "p", "abcdefg"), ("give", "p", "A"), ("give", "p", 1),
    ("give", "p", None), ("give", "r", "a"), ("give", "", "a"), ("give", 0, "a"), ("give", None, "a"), ("give", ("p",), "a"),
    ("give", ("pipe", "p"), "a"), ("give", "p", "a", "b"), ("give", "a", "p"), ("give", "p", ("a",)),
    ("take",), ("take", "p"), ("take", "p", 0), ("take", "p", True), ("take", "p", "1"), ("take", "r", 1), ("take", 1, "p"),
    ("take", None, 1), ("take", "p", 1, 1), ("take", ["p"], 1),
    ("lend",), ("lend", 0), ("lend", -1), ("lend", True), ("lend", None), ("lend", 1, 1), ("lend", "p"),
    ("quiet", ()), ("quiet", None), ("quiet", 1), ("stop", ()), ("stop", None), ("stop", 1),
)

GOOD = (
    (),
    GOOD_EVENTS[1:4] + GOOD_EVENTS[6:],
    (A, put(nop("b"))),
    (("give", "p", "stop"), ("stop",), ("give", "p", "stop"), ("give", "q", "clock")),
    (("clock", 1), ("clock", 2), A, ("clock", 7)),
    (("stop",), A, put(nop("b")), ("quiet",), ("reap", 1), ("reap", 1)),
    (("quiet",), ("quiet",), ("lend", 1), ("lend", 1), ("give", "p", "a"), ("give", "p", "a")),
    (A, put(cancel("c", "a"))),
    (put(nop("a"), cancel("c", "a")),),
    (put(nop("a"), cancel("c", "a"), cancel("d", "c")), put(cancel("e", "d"))),
    (CHAIN, ("stop",), put(cancel("c", "t"), cancel("d", "u"))),
)

BAD = (
    (A, A),
    (A, ("quiet",), put(nop("b"), nop("a"))),
    (put(nop("a"), nop("b")), put(nop("c")), put(nop("b"))),
    (CHAIN, put(nop("t"))),
    (put(cancel("c", "a")),),
    (put(cancel("c", "c")),),
    (put(cancel("c", "a"), nop("a")),),
    (put(cancel("c", "a")), A),
    (A, put(cancel("c", "b"), nop("b"))),
    (A, put(nop("b"), cancel("c", "e")), put(nop("e"))),
    (("clock", 1), ("clock", 1)),
    (("clock", 2), ("clock", 1)),
    (("clock", 5), ("quiet",), ("clock", 6), ("clock", 3)),
    (("stop",), ("stop",)),
    (("stop",), A, ("quiet",), ("stop",)),
)


class IsScriptTest(unittest.TestCase):
    def test_each_event(self):
        for event in GOOD_EVENTS:
            expect(self, True, is_script, SETUP, (event,))
            expect(self, True, is_script, SETUP, (("lend", 1), event, ("reap", 1)))

    def test_events_that_are_none(self):
        for event in BAD_EVENTS:
            expect(self, False, is_script, SETUP, (event,))
            expect(self, False, is_script, SETUP, (("lend", 1), event, ("reap", 1)))

    def test_events_that_may_stand_behind_each_other(self):
        for thing in GOOD:
            expect(self, True, is_script, SETUP, thing)

    def test_events_that_may_not_stand_behind_each_other(self):
        for thing in BAD:
            expect(self, False, is_script, SETUP, thing)

    def test_other_kinds(self):
        for thing in ODD:
            expect(self, False, is_script, SETUP, thing)

    def test_one_part_of_another_kind(self):
        for thing in GOOD:
            for other in spoiled(thing):
                expect(self, False, is_script, SETUP, other)

    def test_lists_are_no_tuples(self):
        for thing in GOOD:
            expect(self, False, is_script, SETUP, as_lists(thing))

    def test_the_setup_as_lists_and_by_name(self):
        setup = as_lists(SETUP)
        for thing in GOOD:
            expect(self, True, is_script, setup, thing)
        for thing in BAD:
            expect(self, False, is_script, setup, thing)
        self.assertIs(is_script(thing=GOOD[1], setup=setup), True)
        self.assertIs(is_script((1, 1, (), ()), GOOD[1]), False)

    def test_no_limits_are_looked_at(self):
        expect(self, True, is_script, SETUP, tuple(("clock", at + 1) for at in range(500)) + (("quiet",),) * 500)


class TagsTest(unittest.TestCase):
    WANTED = (
        ((), ()),
        ((("quiet",), ("stop",), ("give", "p", "a")), ()),
        ((A,), ("a",)),
        ((put(nop("z"), nop("b")), ("quiet",), CHAIN, ("reap", 1), put(cancel("c", "t"))), ("z", "b", "r", "t", "u", "c")),
    )

    def test_all_tags_in_order(self):
        for script, wanted in self.WANTED:
            with self.subTest(script=script):
                self.assertEqual(repr(tags(script)), repr(wanted))
        self.assertEqual(tags(script=(A,)), ("a",))

    def test_lists_for_tuples(self):
        for script, wanted in self.WANTED:
            with self.subTest(script=script):
                lists = as_lists(script)
                self.assertEqual(repr(tags(lists)), repr(wanted))
                self.assertEqual(lists, as_lists(script))


if __name__ == "__main__":
    unittest.main()
