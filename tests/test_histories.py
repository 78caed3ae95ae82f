import unittest

from endonce.data import is_closed, is_history, is_script, script_of
from things import DEEP, ODD, SETUP, as_lists, expect, spoiled

NOP = ("nop",)
PIPE = ("pipe", "p")
SLOT = ("slot", 1)


def put(*requests):
    return ("put", requests)


def nop(tag):
    return (tag, NOP, ())


def done(tag):
    return (tag, ("done",), None, False, False)


def reap(*completions):
    return (("reap", 9), completions)


def quiet(*triples):
    return (("quiet",), triples)


LOT = put(
    ("r", ("read", SLOT, 2), ("link",)), ("t", ("linktimeout", 5), ()), ("s", ("reads", SLOT, 2), ("hard", "pick")),
    ("n", NOP, ("silent",)), ("w", ("write", PIPE, "ab"), ()), ("u", ("update", 1, "q"), ()), ("v", ("work", False), ("drain",)))

# A HISTORY with each EVENT and each kind of what is told.
LONG = (
    (LOT, None),
    (("give", "p", "abc"), ("given", 0)),
    (("clock", 7), None),
    (("lend", 2), None),
    (("take", "p", 2), (3, "")),
    quiet(("r", True, 0), ("t", True, None), ("u", False, None), ("v", False, None), ("w", True, None)),
    (put(nop("x"), ("c", ("cancel", "x"), ())), "busy"),
    reap(("r", ("text", "p", 0, "ab"), 0, False, False), ("s", ("picked", "p", 2, "c", 0), 0, True, True)),
    (("stop",), None),
    (put(nop("y")), "stopped"),
    (("reap", 1), ()),
    (("give", "q", "abcdef"), ("shut", "w")),
    reap(("s", ("picked", "q", 7, "dddd", 1), 3, True, False), (1, ("freed", 0), None, False, True),
         ("s", ("cancelled", "c", True), 0, False, False), ("n", ("stopped", False), None, False, False),
         ("t", ("off",), None, False, True), (0, ("freed", 0), None, False, False), (1, ("freed", 1), None, False, False)),
    (("take", "q", 1), (0, "abcdefgh")),
    quiet(),
    reap(("w", ("broken", "r"), None, False, False)),
    (("reap", 2), ()),
)


class IsHistoryTest(unittest.TestCase):
    def test_histories(self):
        for many in range(len(LONG) + 1):
            expect(self, True, is_history, SETUP, LONG[:many])

    def test_other_kinds(self):
        for thing in ODD:
            expect(self, False, is_history, SETUP, thing)
            expect(self, False, is_history, SETUP, (thing,))
            expect(self, False, is_history, SETUP, ((("quiet",), ()), thing))

    def test_one_part_of_another_kind(self):
        for other in spoiled(LONG):
            expect(self, False, is_history, SETUP, other)

    def test_lists_are_no_tuples(self):
        expect(self, False, is_history, SETUP, as_lists(LONG))
        expect(self, False, is_history, SETUP, as_lists(LONG[:1]))
        expect(self, False, is_history, SETUP, [])

    def test_the_setup_as_lists_and_by_name(self):
        expect(self, True, is_history, as_lists(SETUP), LONG)
        self.assertIs(is_history(thing=LONG, setup=SETUP), True)
        expect(self, False, is_history, (2, 6, ("p",), (None, "p")), LONG)
        expect(self, False, is_history, (2, 6, ("p", "q"), (None,)), LONG)

    def test_pairs_of_another_length(self):
        good = (("quiet",), ())
        for pair in ((), (("quiet",),), good + ((),), good + (None,), (((), ("quiet",))), (good,), list(good), ("quiet", ())):
            expect(self, False, is_history, SETUP, (pair,))

    def test_its_events_are_a_script(self):
        a = (put(nop("a")), None)
        bad = (
            (a, a), (a, (put(nop("a")), "busy")), ((put(nop("a")), "busy"), a), ((put(nop("a")), "stopped"), a),
            ((put(("c", ("cancel", "a"), ())), None), a), ((("clock", 2), None), (("clock", 2), None)),
            ((("stop",), None), (("stop",), None)), ((put(), None),), ((put(("a", NOP, ("link",))), None),),
            ((("give", "r", "a"), ("given", 0)),), ((put(("a", ("read", ("slot", 2), 1), ())), None),),
        )
        for thing in bad:
            expect(self, False, is_script, SETUP, tuple(event for event, _ in thing))
            expect(self, False, is_history, SETUP, thing)
        expect(self, True, is_history, SETUP, ((put(nop("a")), "busy"), (put(("c", ("cancel", "a"), ())), None)))

    def test_told_of_put(self):
        for told in (None, "busy", "stopped"):
            expect(self, True, is_history, SETUP, ((put(nop("a")), told),))
        for told in ("", "Busy", "done", "none", (), (None,), ("busy",), ["busy"], [], False, True, 0, DEEP):
            expect(self, False, is_history, SETUP, ((put(nop("a")), told),))

    def test_told_of_give(self):
        for told in (("given", 0), ("given", 10 ** 9), ("shut", "a"), ("shut", "nobody")):
            expect(self, True, is_history, SETUP, ((("give", "p", "a"), told),))
        for told in (
                None, (), ("given",), ("given", -1), ("given", True), ("given", None), ("given", "0"), ("given", 0, 0),
                ("given", "a"), ["given", 0], ("shut",), ("shut", ""), ("shut", "A"), ("shut", 0), ("shut", None),
                ("shut", "abcdefghi"), ("shut", "a", "a"), ("shut", PIPE), ("wrote", 0), (0, "a"), 0, "given", DEEP, (("given",), 0)):
            expect(self, False, is_history, SETUP, ((("give", "p", "a"), told),))

    def test_told_of_take(self):
        for told in ((0, ""), (0, "a"), (10 ** 9, "abcdefghijkl"), (3, "z" * 300)):
            expect(self, True, is_history, SETUP, ((("take", "p", 1), told),))
        for told in (
                None, (), (0,), ("",), (0, "", ""), (-1, "a"), (True, "a"), (None, "a"), ("a", 0), ("0", "a"), (0, None), (0, 0),
                (0, "A"), (0, "a b"), (0, "-"), (0, "\u00e4"), (0, ()), (0, ("a",)), [0, "a"], "0a", 0, ("given", 0), DEEP):
            expect(self, False, is_history, SETUP, ((("take", "p", 1), told),))

    def test_told_of_those_that_are_told_nothing(self):
        for event in (("clock", 1), ("lend", 1), ("stop",)):
            expect(self, True, is_history, SETUP, ((event, None),))
            for told in ((), "", False, True, 0, 1, "busy", "stopped", "None", (None,), [], ("given", 0), DEEP):
                expect(self, False, is_history, SETUP, ((event, told),))

    def test_told_of_reap(self):
        a = (put(nop("a"), nop("b")), None)
        for completions in ((), (done("a"),), (done("b"), done("a"))):
            expect(self, True, is_history, SETUP, (a, (("reap", 1), completions)))
        for told in (None, "", "a", 0, False, [], [done("a")], done("a"), (done("a"), None), (done("a"), ()), ((done("a"),),), DEEP):
            expect(self, False, is_history, SETUP, (a, (("reap", 9), told)))

    def test_completions_are_of_what_was_put_ahead(self):
        put_a = put(nop("a"))
        expect(self, True, is_history, SETUP, ((put_a, None), reap(done("a"))))
        expect(self, False, is_history, SETUP, (reap(done("a")), (put_a, None)))
        expect(self, False, is_history, SETUP, (reap(done("a")),))
        expect(self, False, is_history, SETUP, ((put_a, "busy"), reap(done("a"))))
        expect(self, False, is_history, SETUP, ((put_a, "stopped"), reap(done("a"))))
        expect(self, False, is_history, SETUP, ((put_a, "busy"), (put(nop("b")), None), reap(done("b"), done("a"))))

    def test_one_end_of_a_request_and_nothing_behind_it(self):
        lot = (put(nop("a"), ("s", ("reads", PIPE, 2), ()), nop("b")), None)
        fire = ("s", ("text", "p", 0, "a"), None, True, False)
        end = ("s", ("end", "p", 1, "b"), None, False, False)
        stopped = ("s", ("stopped", True), None, False, True)
        good = (
            (lot, reap(fire, fire, end)), (lot, reap(fire), reap(fire), reap(end), reap()), (lot, reap(fire, done("a"), end)),
            (lot, reap(fire), reap(fire)), (lot, reap(end, done("a")), reap(done("b"))), (lot, reap(stopped)),
        )
        for thing in good:
            expect(self, True, is_history, SETUP, thing)
        bad = (
            (lot, reap(done("a"), done("a"))), (lot, reap(done("a")), reap(done("a"))),
            (lot, reap(done("a"), done("b")), quiet(), reap(), reap(done("a"))), (lot, reap(end, fire)), (lot, reap(end), reap(fire)),
            (lot, reap(end, end)), (lot, reap(end, stopped)), (lot, reap(fire, end), reap(stopped)),
            (lot, reap(done("a"), ("a", ("cancelled", "b", False), None, False, False))),
        )
        for thing in bad:
            expect(self, False, is_history, SETUP, thing)

    def test_a_turn_is_freed_once(self):
        def freed(slot, turn):
            return (slot, ("freed", turn), None, False, False)
        for thing in (
                (reap(freed(0, 0), freed(0, 1), freed(1, 0), freed(1, 1)),), (reap(freed(1, 1)), reap(freed(0, 1)), reap(freed(1, 0)))):
            expect(self, True, is_history, SETUP, thing)
        for thing in (
                (reap(freed(0, 0), freed(0, 0)),), (reap(freed(1, 2)), reap(freed(1, 2))),
                (reap(freed(0, 1), freed(1, 1)), reap(), quiet(), reap(freed(1, 0), freed(0, 1)))):
            expect(self, False, is_history, SETUP, thing)
        kept = (0, ("freed", 0), None, False, True)
        expect(self, False, is_history, SETUP, (reap(freed(0, 0), kept),))

    def test_told_of_quiet(self):
        lot = (put(nop("a"), ("b", ("read", SLOT, 1), ("link",)), ("t", ("linktimeout", 1), ()), ("u", ("update", 1, "p"), ()),
                   ("w", ("write", PIPE, "a"), ())), None)
        good = (
            (), (("a", False, None),), (("a", True, None),), (("b", True, 0),), (("b", True, 10 ** 9),), (("b", False, None),),
            (("t", True, None),), (("t", False, None),), (("u", True, None),), (("w", True, None),), (("w", False, None),),
            (("a", True, None), ("b", True, 0), ("t", True, None), ("u", False, None), ("w", True, None)),
        )
        for told in good:
            expect(self, True, is_history, SETUP, (lot, quiet(*told)))
        bad = (
            (("b", True, None),), (("b", True, -1),), (("b", True, True),), (("b", True, "0"),), (("b", True, ()),),
            (("b", False, 0),), (("a", True, 0),), (("a", False, 0),), (("a", False, False),), (("t", True, 0),), (("u", True, 0),),
            (("u", True, 1),), (("w", True, 0),), (("w", False, 0),), (("a", None, None),), (("a", 1, None),), (("a", 0, None),),
            (("b", 1, 0),), (("b", 0, None),), (("a", "True", None),), (("a", (), None),), (("a", True),), (("a",),), ((),),
            (("a", True, None, None),), (["a", True, None],), ("abc",), (None,), (("c", True, None),), (("", True, None),),
            (("A", True, None),), ((0, True, None),), ((None, True, None),), ((("a",), True, None),), ((["a"], True, None),),
            (("a", True, None), ("a", True, None)), (("a", False, None), ("a", True, None)),
            (("b", True, 0), ("a", True, None)), (("b", True, 0), ("b", True, 1)), (("a", True, None), ("w", True, None), ("u", True, None)),
            (DEEP,), (("a", True, None), DEEP),
        )
        for told in bad:
            expect(self, False, is_history, SETUP, (lot, quiet(*told)))
        for told in (None, "", "a", 0, False, [], [("a", True, None)], ("a", True, None), DEEP):
            expect(self, False, is_history, SETUP, (lot, (("quiet",), told)))

    def test_quiet_tells_of_what_was_put_ahead(self):
        put_a = put(nop("a"))
        told = quiet(("a", False, None))
        expect(self, True, is_history, SETUP, ((put_a, None), told))
        expect(self, True, is_history, SETUP, ((put_a, None), reap(done("a")), told, told))
        expect(self, False, is_history, SETUP, (told, (put_a, None)))
        expect(self, False, is_history, SETUP, ((put_a, "busy"), told))
        expect(self, False, is_history, SETUP, ((put_a, "stopped"), told))

    def test_numbers_need_not_fit(self):
        lot = (put(nop("a"), ("r", ("read", PIPE, 1), ()), ("u", ("update", 0, "p"), ())), None)
        for thing in (
                (lot, (("reap", 1), (done("a"), ("u", ("turn", 9), None, False, True)))),
                (lot, reap(("r", ("text", "p", 8, "abc"), None, False, False), ("u", ("cancelled", "nobody", True), None, False, False))),
                ((("take", "p", 1), (5, "abc")), (("stop",), None), lot, quiet(("a", True, None))),
                (reap((0, ("freed", 5), None, False, False)),)):
            expect(self, True, is_history, SETUP, thing)

    def test_no_limits_are_looked_at(self):
        expect(self, True, is_history, SETUP, tuple((("clock", at + 1), None) for at in range(400)) + (reap(),) * 400)
        freed = tuple((0, ("freed", at), None, False, True) for at in range(500))
        expect(self, True, is_history, (9, 99, tuple("abcdefgh"), (None,) * 9), (reap(*freed),))


class ScriptOfTest(unittest.TestCase):
    def test_the_events_in_order(self):
        self.assertEqual(repr(script_of(())), "()")
        self.assertEqual(repr(script_of(LONG)), repr(tuple(event for event, _ in LONG)))
        self.assertIs(is_script(SETUP, script_of(LONG)), True)
        self.assertEqual(script_of(history=LONG[:1]), (LOT,))

    def test_lists_for_tuples(self):
        lists = as_lists(LONG)
        self.assertEqual(repr(script_of(lists)), repr(script_of(LONG)))
        self.assertEqual(lists, as_lists(LONG))
        mixed = (tuple(as_lists(pair)) if at % 2 else list(pair) for at, pair in enumerate(LONG))
        self.assertEqual(repr(script_of(list(mixed))), repr(script_of(LONG)))
        self.assertEqual(repr(script_of([])), "()")


class IsClosedTest(unittest.TestCase):
    A = (put(nop("a"), nop("b")), None)
    CLOSED = (
        (quiet(), reap()),
        (A, quiet(), reap(done("a"), done("b")), reap()),
        (A, quiet(), reap(done("a")), reap(done("b")), reap()),
        (A, reap(), reap(), quiet(("a", True, None)), reap(done("a")), reap()),
        (A, quiet(), reap(), (("clock", 1), None), quiet(), reap()),
        (quiet(), quiet(), reap()),
        LONG,
    )
    OPEN = (
        (),
        (reap(),),
        (quiet(),),
        (A,),
        (A, reap(done("a")), reap()),
        (A, quiet()),
        (A, quiet(), reap(done("a"))),
        (A, quiet(), reap(done("a")), reap(done("b"))),
        (A, quiet(), reap(), reap()),
        (A, quiet(), reap(done("a")), reap(), reap()),
        (A, quiet(), reap(), reap(done("a")), reap()),
        (A, quiet(), reap(), reap(done("a"))),
        (A, quiet(), reap(done("a")), (("lend", 1), None), reap()),
        (A, quiet(), (("clock", 1), None), reap()),
        (A, quiet(), reap(), (("stop",), None)),
        (A, quiet(), reap(), quiet()),
        (A, quiet(), (("take", "p", 1), (0, ""))),
        (quiet(), A, reap()),
    )

    def test_closed_and_open(self):
        for given in self.CLOSED:
            expect(self, True, is_closed, given)
        for given in self.OPEN:
            expect(self, False, is_closed, given)

    def test_they_are_histories(self):
        for given in self.CLOSED + self.OPEN:
            expect(self, True, is_history, SETUP, given)

    def test_lists_for_tuples(self):
        for given in self.CLOSED:
            expect(self, True, is_closed, as_lists(given))
        for given in self.OPEN:
            expect(self, False, is_closed, as_lists(given))

    def test_by_name(self):
        self.assertIs(is_closed(history=self.CLOSED[0]), True)


if __name__ == "__main__":
    unittest.main()
