import unittest

from endonce.data import chains, is_lot
from things import DEEP, ODD, SETUP, as_lists, expect, spoiled

PIPE = ("pipe", "p")
SLOT = ("slot", 1)
NOP = ("nop",)
LATER = ("linktimeout", 0)

DEEDS = (
    NOP, ("work", True), ("work", False), ("read", PIPE, 1), ("read", SLOT, 99), ("reads", PIPE, 10 ** 9),
    ("reads", ("slot", 0), 2), ("write", PIPE, "a"), ("write", SLOT, "abcdef"), ("shut", ("pipe", "q")),
    ("shut", SLOT), ("timeout", 0), ("timeout", 10 ** 9), ("cancel", "a"), ("cancel", "other"), ("cancelall",),
    ("update", 0, "q"), ("update", 1, None),
)

BAD_DEEDS = (
    (), ("",), ("no",), ("NOP",), ("nops",), (None,), (0,), (True,), (("nop",),), (["nop"],), ["nop"], "nop", None, 0, DEEP,
    ("nop", 1), ("nop", None), ("nop", ()), ("put",), ("quiet",), ("done",),
    ("work",), ("work", 1), ("work", 0), ("work", None), ("work", "True"), ("work", True, True),
    ("read", PIPE), ("read", PIPE, 0), ("read", PIPE, -1), ("read", PIPE, True), ("read", PIPE, None),
    ("read", PIPE, "1"), ("read", PIPE, (1,)), ("read", PIPE, 1, 1), ("read", 1, PIPE), ("read", "p", 1),
    ("read", ("p",), 1), ("read", ("pipe",), 1), ("read", ("pipe", "r"), 1), ("read", ("pipe", "P"), 1),
    ("read", ("pipe", 0), 1), ("read", ("pipe", None), 1), ("read", ("pipe", "p", 0), 1), ("read", ["pipe", "p"], 1),
    ("read", ("pipe", ("p",)), 1), ("read", ("pipe", ["p"]), 1), ("read", ("pipe", ""), 1), ("read", ("tube", "p"), 1),
    ("read", (["pipe"], "p"), 1), ("read", ((), "p"), 1), ("read", (), 1), ("read", None, 1), ("read", DEEP, 1),
    ("read", ("slot", 2), 1), ("read", ("slot", -1), 1), ("read", ("slot", True), 1), ("read", ("slot", False), 1),
    ("read", ("slot", None), 1), ("read", ("slot", "p"), 1), ("read", ("slot", "1"), 1), ("read", ("slot",), 1),
    ("read", ("slot", 1, 1), 1), ("read", ("slot", (1,)), 1), ("read", ["slot", 1], 1), ("read", ("pipe", 1), 1),
    ("reads", PIPE), ("reads", PIPE, 0), ("reads", ("slot", 2), 1), ("reads", ("pipe", "r"), 1), ("reads", PIPE, False),
    ("write", PIPE), ("write", PIPE, ""), ("write", PIPE, "abcdefg"), ("write", PIPE, "A"), ("write", PIPE, "a b"),
    ("write", PIPE, 1), ("write", PIPE, None), ("write", PIPE, ("a",)), ("write", PIPE, ["a"]), ("write", PIPE, "a", "b"),
    ("write", ("slot", 2), "a"), ("write", ("pipe", "r"), "a"),
    ("shut",), ("shut", "p"), ("shut", ("slot", 2)), ("shut", ("pipe", "r")), ("shut", PIPE, 1), ("shut", None),
    ("timeout",), ("timeout", -1), ("timeout", True), ("timeout", None), ("timeout", "1"), ("timeout", 1, 1),
    ("linktimeout",),
    ("cancel",), ("cancel", ""), ("cancel", "A"), ("cancel", "abcdefghi"), ("cancel", None), ("cancel", 0),
    ("cancel", ("a",)), ("cancel", "a", "b"), ("cancel", True), ("cancel", ["a"]),
    ("cancelall", "a"), ("cancelall", ()), ("cancelall", None),
    ("update", 0), ("update", 0, "r"), ("update", 0, ""), ("update", 0, 0), ("update", 0, False), ("update", 0, ()),
    ("update", 2, "p"), ("update", -1, "p"), ("update", True, "p"), ("update", False, None), ("update", None, "p"),
    ("update", "0", "p"), ("update", ("slot", 0), "p"), ("update", 0, "p", "p"), ("update", "p", 0), ("update", (0,), "p"),
    ("update", 0, ["p"]), ("update", 0, ("p",)),
)

BAD_TAGS = ("", "A", "a1", "a-b", "a b", "abcdefghi", "\u00e4", None, True, 0, 1, ("a",), ["a"], (), DEEP)

# All flags in ascending order; which of them each deed can have.
READ_FLAGS = ("drain", "hard", "link", "pick")
GOOD_FLAGS = ("drain", "hard", "link", "silent")
FLAGS = ("drain", "hard", "link")


def flags_of(deed):
    if deed[0] in ("read", "reads"):
        return READ_FLAGS
    return GOOD_FLAGS if deed in (NOP, ("work", True)) else FLAGS


def subsets(words):
    if not words:
        return [()]
    rest = subsets(words[1:])
    return rest + [(words[0],) + row for row in rest]


def with_more(deed, flags, tag="a"):
    """A lot with this request, and one behind it so that it may have link or hard."""
    return ((tag, deed, flags), ("z", NOP, ()))


def lot(*rows):
    """A lot with a request for each row (tag, flag, ..): a nop, or a linktimeout if the tag begins with t."""
    return tuple((row[0], LATER if row[0][0] == "t" else NOP, row[1:]) for row in rows)


LINK = "link"
HARD = "hard"
DRAIN = "drain"

GOOD_LOTS = (
    lot(("a",)),
    lot(("a",), ("b",)),
    lot(("abcdefgh",), ("z",)),
    lot(("a", DRAIN)),
    lot(("a", LINK), ("b",)),
    lot(("a", HARD), ("b",)),
    lot(("a", LINK), ("t",)),
    lot(("a", HARD), ("t",)),
    lot(("a", DRAIN, LINK), ("t",), ("b",)),
    lot(("a", LINK), ("t",), ("b",)),
    lot(("a", LINK), ("t",), ("b", LINK), ("tt",)),
    lot(("a", LINK), ("t",), ("b", HARD), ("tt",), ("c",)),
    lot(("a", LINK), ("b", HARD), ("c", LINK), ("d",)),
    lot(("a", LINK), ("b",), ("c", DRAIN)),
    lot(("a", DRAIN), ("b", DRAIN), ("c", DRAIN, LINK), ("d",), ("e", DRAIN)),
    lot(("a", LINK), ("t",), ("b",), ("c", DRAIN, HARD), ("tt",)),
)

BAD_LOTS = (
    (),
    lot(("a",), ("a",)),
    lot(("a", LINK), ("b",), ("a",)),
    lot(("t", LINK), ("t",)),
    lot(("a", LINK), ("t",), ("t",)),
    lot(("a", LINK), ("t",), ("b", LINK), ("t",)),
    lot(("a", LINK)),
    lot(("a", HARD)),
    lot(("a",), ("b", LINK)),
    lot(("a", LINK), ("b", HARD)),
    lot(("a", LINK), ("t",), ("b", LINK)),
    lot(("t",)),
    lot(("t",), ("a",)),
    lot(("a",), ("t",)),
    lot(("a", DRAIN), ("t",)),
    lot(("a", LINK), ("t",), ("tt",)),
    lot(("a", LINK), ("t",), ("tt",), ("b",)),
    lot(("a", LINK), ("b",), ("t",)),
    lot(("a", LINK), ("b",), ("t",), ("c",)),
    lot(("a", LINK), ("b", DRAIN)),
    lot(("a", HARD), ("b", DRAIN)),
    lot(("a", LINK), ("t",), ("b", DRAIN)),
    lot(("a", LINK), ("b", LINK), ("c", DRAIN)),
    lot(("a", LINK), ("b", DRAIN, LINK), ("c",)),
    lot(("a", DRAIN, LINK), ("b", DRAIN)),
    lot(("a", LINK), ("t", DRAIN), ("b",)),
    lot(("a", LINK), ("t", LINK), ("b",)),
    lot(("a", LINK), ("t", HARD), ("b",)),
    lot(("a", LINK), ("t", "silent"), ("b",)),
    lot(("a", LINK), ("t", "pick"), ("b",)),
)


class IsLotTest(unittest.TestCase):
    def test_the_examples(self):
        setup = (2, 6, ("p",), (None, "p"))
        expect(self, False, is_lot, setup, (("a", ("read", ("slot", 2), 1), ()),))
        expect(self, False, is_lot, setup, (("a", ("nop",), ("hard",)),))
        expect(self, True, is_lot, setup, (("a", ("read", ("slot", 1), 1), ()),))

    def test_each_deed_with_each_set_of_flags(self):
        for deed in DEEDS:
            for flags in subsets(("drain", "hard", "link", "pick", "silent")):
                fits = set(flags) <= set(flags_of(deed)) and not {"hard", "link"} <= set(flags)
                expect(self, fits, is_lot, SETUP, with_more(deed, flags))

    def test_deeds_that_are_none(self):
        for deed in BAD_DEEDS:
            expect(self, False, is_lot, SETUP, with_more(deed, ()))

    def test_linktimeouts(self):
        for when in (0, 1, 10 ** 9):
            expect(self, True, is_lot, SETUP, (("a", NOP, ("link",)), ("t", ("linktimeout", when), ())))
        for rest in ((), (-1,), (True,), (None,), ("1",), (1, 1), ((1,),)):
            expect(self, False, is_lot, SETUP, (("a", NOP, ("link",)), ("t", ("linktimeout",) + rest, ())))

    def test_tags_that_are_none(self):
        for tag in BAD_TAGS:
            expect(self, False, is_lot, SETUP, with_more(NOP, (), tag))

    def test_flags_that_are_none(self):
        others = (
            ("link", "drain"), ("silent", "drain"), ("drain", "drain"), ("link", "link"), ("silent", "silent"), ("",),
            ("Link",), ("links",), ("none",), (None,), (True,), (0,), (("link",),), (["link"],), ("drain", None), (None, "drain"),
            ("drain", 1), ("drain", "link", ()), ["link"], [], "link", "", None, False, 0, DEEP,
        )
        for flags in others:
            expect(self, False, is_lot, SETUP, with_more(NOP, flags))
        for flags in (("pick", "drain"), ("pick", "pick"), ["pick"], "pick"):
            expect(self, False, is_lot, SETUP, with_more(("read", PIPE, 1), flags))

    def test_requests_of_another_length(self):
        for request in ((), ("a",), ("a", NOP), ("a", NOP, (), ()), ("a", NOP, (), None), ["a", NOP, ()], (NOP, "a", ())):
            expect(self, False, is_lot, SETUP, (request,))

    def test_chains_that_may_stand(self):
        for thing in GOOD_LOTS:
            expect(self, True, is_lot, SETUP, thing)

    def test_chains_that_may_not_stand(self):
        for thing in BAD_LOTS:
            expect(self, False, is_lot, SETUP, thing)

    def test_a_cancel_may_name_any_tag(self):
        for tag in ("a", "b", "c", "nobody"):
            expect(self, True, is_lot, SETUP, (("a", NOP, ()), ("b", ("cancel", tag), ()), ("c", NOP, ())))

    def test_other_kinds(self):
        for thing in ODD:
            expect(self, False, is_lot, SETUP, thing)

    def test_one_part_of_another_kind(self):
        things = [((tag, deed, ()),) for tag, deed in zip("abcdefghijklmnopqrstuvwxyz", DEEDS)] + list(GOOD_LOTS)
        for thing in things:
            expect(self, True, is_lot, SETUP, thing)
            for other in spoiled(thing):
                expect(self, False, is_lot, SETUP, other)

    def test_lists_are_no_tuples(self):
        for thing in GOOD_LOTS:
            expect(self, False, is_lot, SETUP, as_lists(thing))

    def test_the_setup_as_lists_and_by_name(self):
        setup = as_lists(SETUP)
        for deed in DEEDS:
            expect(self, True, is_lot, setup, (("a", deed, ()),))
        for deed in BAD_DEEDS:
            expect(self, False, is_lot, setup, (("a", deed, ()),))
        self.assertIs(is_lot(thing=(("a", NOP, ()),), setup=setup), True)

    def test_pipes_and_slots_are_those_of_the_setup(self):
        bare = (1, 1, (), ())
        for deed in DEEDS:
            fits = deed[0] not in ("read", "reads", "write", "shut", "update")
            expect(self, fits, is_lot, bare, (("a", deed, ()),))

    def test_no_limits_are_looked_at(self):
        many = tuple(("abcdefghij"[at // 100] + "abcdefghij"[at // 10 % 10] + "abcdefghij"[at % 10], NOP, ("drain",))
                     for at in range(300))
        expect(self, True, is_lot, SETUP, many)
        setup = (99, 99, tuple("abcdefghi"), (None,) * 30)
        expect(self, True, is_lot, setup, (("a", ("read", ("slot", 29), 10 ** 20), ()), ("b", ("timeout", 10 ** 20), ())))


class ChainsTest(unittest.TestCase):
    WANTED = (
        (lot(("a",)), [(("a", None),)]),
        (lot(("a",), ("b",)), [(("a", None),), (("b", None),)]),
        (lot(("a", LINK), ("b",)), [(("a", None), ("b", None))]),
        (lot(("a", HARD), ("b",), ("c",)), [(("a", None), ("b", None)), (("c", None),)]),
        (lot(("a", LINK), ("t",)), [(("a", "t"),)]),
        (lot(("a", HARD), ("t",)), [(("a", "t"),)]),
        (lot(("a", LINK), ("t",), ("b",), ("c", DRAIN)), [(("a", "t"), ("b", None)), (("c", None),)]),
        (lot(("a", LINK), ("t",), ("b", HARD), ("tt",)), [(("a", "t"), ("b", "tt"))]),
        (lot(("a",), ("b", LINK), ("t",)), [(("a", None),), (("b", "t"),)]),
        (lot(("a", LINK), ("b", HARD), ("t",), ("c", LINK), ("d",), ("e", DRAIN, LINK), ("tt",)),
         [(("a", None), ("b", "t"), ("c", None), ("d", None)), (("e", "tt"),)]),
        ((("a", ("read", PIPE, 1), ("drain", "link", "pick")), ("t", LATER, ()), ("b", ("cancel", "a"), ())),
         [(("a", "t"), ("b", None))]),
    )

    def test_the_example(self):
        given = (("a", ("nop",), ("link",)), ("t", ("linktimeout", 5), ()), ("b", ("nop",), ()), ("c", ("nop",), ("drain",)))
        self.assertEqual(repr(chains(given)), "[(('a', 't'), ('b', None)), (('c', None),)]")

    def test_chains_in_order(self):
        for given, wanted in self.WANTED:
            with self.subTest(given=given):
                self.assertEqual(repr(chains(given)), repr(wanted))

    def test_lists_for_tuples(self):
        for given, wanted in self.WANTED:
            with self.subTest(given=given):
                lists = as_lists(given)
                self.assertEqual(repr(chains(lists)), repr(wanted))
                self.assertEqual(lists, as_lists(given))

    def test_the_returned_list_is_new(self):
        given = lot(("a", LINK), ("b",))
        first = chains(given)
        first.append("more")
        first[0] = "other"
        self.assertEqual(chains(lot=given), [(("a", None), ("b", None))])


if __name__ == "__main__":
    unittest.main()
