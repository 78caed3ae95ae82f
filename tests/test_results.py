import unittest

from endonce.data import is_history
from things import DEEP, SETUP, expect

PIPE = ("pipe", "p")
SLOT = ("slot", 1)

# Results, each of them a good tuple for some deed.
DONE, BAD, BARE = ("done",), ("bad",), ("bare",)
TIME, LATE, OFF, GONE, NONE = ("time",), ("late",), ("off",), ("gone",), ("none",)
TEXT = tuple(("text", pipe, place, text) for pipe in "pq" for place, text in ((0, "a"), (10 ** 7, "abcdefghijk")))
PICKED = tuple(("picked", pipe, 3, "abc", buffer) for pipe in "pq" for buffer in (0, 10 ** 7))
NO_BUFFER = tuple(("no buffer", pipe, place, lent) for pipe in "pq" for place, lent in ((0, 0), (5, 7)))
END = tuple(("end", pipe, place, by) for pipe in "pq" for place, by in ((0, "s"), (7, "abcdefgh")))
WROTE = tuple(("wrote", pipe, place) for pipe in "pq" for place in (0, 9))
BROKEN_PIPE = tuple(("broken pipe", pipe, by) for pipe in "pq" for by in ("s", "abcdefgh"))
SHUT_ALREADY = (("shut already", "s"), ("shut already", "abcdefgh"))
TOOK = (("took", True), ("took", False))
ALL = (
    ("all", (), ()), ("all", (("a", True),), ("a",)), ("all", (("a", False), ("b", True), ("zz", False)), ()),
    ("all", (), ("a", "ab", "b")), ("all", (("b", True),), ("a", "c")),
)
TURN = (("turn", 0), ("turn", 1), ("turn", 77))
CANCELLED_LATE = (("cancelled", "c", True), ("cancelled", "abcdefgh", True))
CANCELLED = (("cancelled", "c", False),)
STOPPED_LATE = (("stopped", True),)
STOPPED = (("stopped", False),)
BROKEN = (("broken", "s"), ("broken", "abcdefgh"))
FREED = (("freed", 0), ("freed", 3))

ALL_RESULTS = (
    (DONE, BAD, BARE, TIME, LATE, OFF, GONE, NONE) + TEXT + PICKED + NO_BUFFER + END + WROTE + BROKEN_PIPE + SHUT_ALREADY
    + TOOK + ALL + TURN + CANCELLED_LATE + CANCELLED + STOPPED_LATE + STOPPED + BROKEN + FREED
)
ENDED = CANCELLED_LATE + CANCELLED
OTHERS = ENDED + STOPPED_LATE + STOPPED + BROKEN


def of_p(results):
    """Those of the results that name the pipe p."""
    return tuple(result for result in results if result[1] == "p")


# Of each request: its deed, its flags, and all results of the list above that it can have.
REQUESTS = (
    (("nop",), (), (DONE,) + OTHERS),
    (("nop",), ("silent",), OTHERS),
    (("nop",), ("drain",), (DONE,) + OTHERS),
    (("work", True), (), (DONE,) + OTHERS),
    (("work", True), ("silent",), OTHERS),
    (("work", False), (), (BAD,) + OTHERS),
    (("read", PIPE, 1), (), of_p(TEXT + END) + OTHERS),
    (("read", PIPE, 1), ("pick",), of_p(PICKED + NO_BUFFER + END) + OTHERS),
    (("read", SLOT, 1), (), TEXT + END + (BARE,) + OTHERS),
    (("read", SLOT, 1), ("pick",), PICKED + NO_BUFFER + END + (BARE,) + OTHERS),
    (("reads", PIPE, 2), (), of_p(TEXT + END) + OTHERS),
    (("reads", PIPE, 2), ("pick",), of_p(PICKED + NO_BUFFER + END) + OTHERS),
    (("reads", SLOT, 2), (), TEXT + END + (BARE,) + OTHERS),
    (("reads", SLOT, 2), ("drain", "pick"), PICKED + NO_BUFFER + END + (BARE,) + OTHERS),
    (("write", PIPE, "ab"), (), of_p(WROTE + BROKEN_PIPE) + OTHERS),
    (("write", SLOT, "ab"), (), WROTE + BROKEN_PIPE + (BARE,) + OTHERS),
    (("shut", PIPE), (), (DONE,) + SHUT_ALREADY + OTHERS),
    (("shut", SLOT), (), (DONE, BARE) + SHUT_ALREADY + OTHERS),
    (("timeout", 3), (), (TIME,) + OTHERS),
    (("linktimeout", 3), (), (TIME, LATE, OFF) + ENDED),
    (("cancel", "z"), (), (LATE, GONE, NONE) + TOOK + OTHERS),
    (("cancelall",), (), ALL + OTHERS),
    (("update", 0, "p"), (), TURN + OTHERS),
    (("update", 1, None), (), TURN + OTHERS),
)

# Near each result of a deed, tuples that are no results at all.
NO_RESULTS = (
    (("nop",), (), ((), ("",), ("done", 1), ("done", None), ["done"], (["done"],), ("Done",), ("nop",), "done", None, 0, DEEP, (0,),
                    (("done",),), ("cancelled",), ("cancelled", "c"), ("cancelled", True, "c"), ("cancelled", "c", 1),
                    ("cancelled", "c", None), ("cancelled", "C", True), ("cancelled", "", True), ("cancelled", 1, True),
                    ("cancelled", None, True), ("cancelled", "abcdefghi", True), ("cancelled", "c", True, True),
                    ("cancelled", ("c",), True), ("stopped",), ("stopped", 0), ("stopped", None), ("stopped", "c"),
                    ("stopped", True, True), ("broken",), ("broken", ""), ("broken", "C"), ("broken", 0), ("broken", None),
                    ("broken", "r", True), ("broken", ("r",)), ["broken", "r"], ("put",), ("freed", 0))),
    (("work", False), (), (("bad", 1), ("bad", False), ["bad"])),
    (("read", PIPE, 1), (), (("text",), ("text", "p"), ("text", "p", 0), ("text", "p", 0, ""), ("text", "p", 0, "A"),
                             ("text", "p", 0, "a b"), ("text", "p", 0, 1), ("text", "p", 0, None), ("text", "p", -1, "a"),
                             ("text", "p", True, "a"), ("text", "p", None, "a"), ("text", "p", "a", 0), ("text", "r", 0, "a"),
                             ("text", None, 0, "a"), ("text", "p", 0, "a", 0), ("text", "p", 0, ("a",)), ("text", ("p",), 0, "a"),
                             ["text", "p", 0, "a"], ("end", "p", 0), ("end", "p", 0, ""), ("end", "p", 0, "S"),
                             ("end", "p", 0, None), ("end", "p", 0, "abcdefghi"), ("end", "p", -1, "s"), ("end", "p", True, "s"),
                             ("end", "p", 0, "s", 1), ("end", "r", 0, "s"), ("end", "p", "s", 0), ("end", "p", 0, 0), BARE)),
    (("read", SLOT, 1), (), (("text", "r", 0, "a"), ("text", 1, 0, "a"), ("text", SLOT, 0, "a"), ("bare", 1), ("bare", None),
                             ("text", None, 0, "a"), ("end", "r", 0, "s"), ("end", "", 0, "s"))),
    (("read", PIPE, 1), ("pick",), (("picked", "p", 0, "a"), ("picked", "p", 0, "", 0), ("picked", "p", 0, "a", -1),
                                    ("picked", "p", 0, "a", True), ("picked", "p", 0, "a", None), ("picked", "p", -1, "a", 0),
                                    ("picked", "p", False, "a", 0), ("picked", "r", 0, "a", 0), ("picked", "p", 0, "a", 0, 0),
                                    ("picked", "p", 0, 0, "a"), ("picked", "p", 0, "A", 0), ("no buffer", "p", 0),
                                    ("no buffer", "p", -1, 0), ("no buffer", "p", 0, -1), ("no buffer", "p", True, 0),
                                    ("no buffer", "p", 0, True), ("no buffer", "p", 0, None), ("no buffer", "r", 0, 0),
                                    ("no buffer", "p", 0, 0, 0), ("no-buffer", "p", 0, 0))),
    (("write", PIPE, "ab"), (), (("wrote",), ("wrote", "p"), ("wrote", "p", -1), ("wrote", "p", True), ("wrote", "p", None),
                                 ("wrote", "p", "0"), ("wrote", "r", 0), ("wrote", 0, "p"), ("wrote", "p", 0, 0),
                                 ("broken pipe", "p"), ("broken pipe", "p", ""), ("broken pipe", "p", "S"),
                                 ("broken pipe", "p", None), ("broken pipe", "p", 0), ("broken pipe", "r", "s"),
                                 ("broken pipe", "s"), ("broken pipe", "p", "s", 0))),
    (("shut", SLOT), (), (("shut already",), ("shut already", ""), ("shut already", "S"), ("shut already", None),
                          ("shut already", 0), ("shut already", "s", 0), ("shut already", ("s",)), ("shut", "s"))),
    (("timeout", 3), (), (("time", 3), ("time", None), ("timeout",))),
    (("linktimeout", 3), (), (("time", 3), ("late", 3), ("off", 3), ("off", True), ("cancelled", "c", 1), ("stopped", True))),
    (("cancel", "z"), (), (("took",), ("took", 1), ("took", 0), ("took", None), ("took", "z"), ("took", True, True),
                           ("late", "z"), ("gone", "z"), ("none", "z"), (None,))),
    (("cancelall",), (), (("all",), ("all", ()), ("all", (), (), ()), ("all", None, ()), ("all", (), None), ("all", [], ()),
                          ("all", (), []), ("all", "a", ()), ("all", (), "a"), ("all", ("a",), ()), ("all", (("a",),), ()),
                          ("all", (("a", 1),), ()), ("all", (("a", None),), ()), ("all", (("a", True, True),), ()),
                          ("all", ((True, "a"),), ()), ("all", (["a", True],), ()), ("all", (("A", True),), ()),
                          ("all", (("", True),), ()), ("all", ((1, True),), ()), ("all", ((None, True),), ()),
                          ("all", (("abcdefghi", True),), ()), ("all", (("b", True), ("a", True)), ()),
                          ("all", (("a", True), ("a", True)), ()), ("all", (("a", False), ("a", True)), ()),
                          ("all", (("a", True), (1, True)), ()), ("all", (("a", True), ()), ()), ("all", (), ("b", "a")),
                          ("all", (), ("a", "a")), ("all", (), ("A",)), ("all", (), ("",)), ("all", (), (1,)),
                          ("all", (), ("a", None)), ("all", (), (("a", True),)), ("all", (), ("abcdefghi",)),
                          ("all", (), (("a",),)), ("all", DEEP, DEEP))),
    (("update", 0, "p"), (), (("turn",), ("turn", -1), ("turn", True), ("turn", None), ("turn", "1"), ("turn", 0, 1),
                              ("turn", 0, 0))),
)


def history(deed, flags, completion):
    """A history in which the request x, with this deed, is told this completion."""
    before = ("z", ("work", True), ("link",))
    return ((("put", (before, ("x", deed, flags)) if deed[0] == "linktimeout" else (
        ("z", ("nop",), ()), ("x", deed, flags), ("y", ("nop",), ()))), None), (("reap", 9), (completion,)))


def looked(deed, result):
    """Whether a turn is told, by the sentence on COMPLETIONs in point 4."""
    if ("slot", 1) not in deed or deed[0] == "update":
        return False
    return result[0] != "broken" and result not in CANCELLED + STOPPED


class ResultsTest(unittest.TestCase):
    def test_each_deed_with_each_result(self):
        for deed, flags, results in REQUESTS:
            for result in ALL_RESULTS:
                turns = (0, 41) if looked(deed, result) else (None,)
                fires = deed[0] == "reads" and result[0] in ("text", "picked")
                for turn in (None, 0, 41):
                    for more in (True, False):
                        fits = result in results and turn in turns and more is fires
                        for kept in (True, False):
                            given = history(deed, flags, ("x", result, turn, more, kept))
                            expect(self, fits, is_history, SETUP, given)

    def test_each_deed_has_results(self):
        self.assertEqual({row[0][0] for row in REQUESTS}, {
            "nop", "work", "read", "reads", "write", "shut", "timeout", "linktimeout", "cancel", "cancelall", "update"})
        for deed, _, results in REQUESTS:
            with self.subTest(deed=deed):
                self.assertTrue(results)

    def test_results_that_are_none(self):
        for deed, flags, results in NO_RESULTS:
            for result in results:
                for turn in (None, 0):
                    for more in (True, False):
                        expect(self, False, is_history, SETUP, history(deed, flags, ("x", result, turn, more, False)))

    def test_turn_more_and_kept_of_other_kinds(self):
        turned = (("read", SLOT, 1), (), TEXT[0])
        plain = (("nop",), (), DONE)
        fire = (("reads", SLOT, 1), (), TEXT[0])
        for odd in (None, -1, True, False, "0", (0,), [0], (), DEEP):
            deed, flags, result = turned
            expect(self, False, is_history, SETUP, history(deed, flags, ("x", result, odd, False, False)))
            expect(self, False, is_history, SETUP, history(fire[0], flags, ("x", fire[2], odd, True, False)))
        for odd in (0, 1, True, False, "None", (), [], DEEP):
            expect(self, False, is_history, SETUP, history(plain[0], (), ("x", DONE, odd, False, False)))
        for odd in (0, 1, None, "False", "", (), (False,), [], DEEP):
            expect(self, False, is_history, SETUP, history(plain[0], (), ("x", DONE, None, odd, False)))
            expect(self, False, is_history, SETUP, history(plain[0], (), ("x", DONE, None, False, odd)))
            expect(self, False, is_history, SETUP, history(fire[0], (), ("x", fire[2], 0, odd, False)))
            expect(self, False, is_history, SETUP, history(fire[0], (), ("x", fire[2], 0, True, odd)))

    def test_completions_of_another_length_or_kind(self):
        good = ("x", DONE, None, False, False)
        expect(self, True, is_history, SETUP, history(("nop",), (), good))
        for odd in (good[:4], good + (False,), good[1:], (), list(good), "abcde", None, 0, True, DEEP, (good,), (DEEP,) * 5):
            expect(self, False, is_history, SETUP, history(("nop",), (), odd))

    def test_names_of_requests(self):
        for name in ("y", "z"):
            expect(self, True, is_history, SETUP, history(("nop",), (), (name, DONE, None, False, False)))
        for name in ("w", "", "X", None, True, False, 0, 1, -1, ("x",), ["x"], DEEP):
            expect(self, False, is_history, SETUP, history(("nop",), (), (name, DONE, None, False, False)))

    def test_notices(self):
        for slot in (0, 1):
            for turn in (0, 1, 10 ** 9):
                for kept in (True, False):
                    expect(self, True, is_history, SETUP, ((("reap", 1), ((slot, ("freed", turn), None, False, kept),)),))
        bad = (
            (2, ("freed", 0), None, False, False), (-1, ("freed", 0), None, False, False), (True, ("freed", 0), None, False, False),
            (False, ("freed", 0), None, False, False), (None, ("freed", 0), None, False, False),
            ("0", ("freed", 0), None, False, False), (("slot", 0), ("freed", 0), None, False, False),
            ((0,), ("freed", 0), None, False, False), ([0], ("freed", 0), None, False, False), ((), (), (), (), ()),
            (0, ("freed", -1), None, False, False), (0, ("freed", True), None, False, False), (0, ("freed", None), None, False, False),
            (0, ("freed", "0"), None, False, False), (0, ("freed",), None, False, False), (0, ("freed", 0, 0), None, False, False),
            (0, ("turn", 0), None, False, False), (0, ("done",), None, False, False), (0, ["freed", 0], None, False, False),
            (0, "freed", None, False, False), (0, (0, "freed"), None, False, False), (0, (["freed"], 0), None, False, False),
            (0, None, None, False, False), (0, DEEP, None, False, False), (0, (), None, False, False),
            (0, ("freed", 0), 0, False, False), (0, ("freed", 0), False, False, False), (0, ("freed", 0), (), False, False),
            (0, ("freed", 0), None, True, False), (0, ("freed", 0), None, 0, False), (0, ("freed", 0), None, None, False),
            (0, ("freed", 0), None, False, 0), (0, ("freed", 0), None, False, None), (0, ("freed", 0), None, False),
            (0, ("broken", "a"), None, False, False), (0, ("stopped", True), None, False, False),
        )
        for completion in bad:
            expect(self, False, is_history, SETUP, ((("reap", 1), (completion,)),))
        expect(self, False, is_history, (1, 1, (), ()), ((("reap", 1), ((0, ("freed", 0), None, False, False),)),))


if __name__ == "__main__":
    unittest.main()
