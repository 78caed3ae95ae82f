import unittest
from copy import deepcopy

from endonce.data import is_script
from endonce.errors import NoTag, TooMany
from endonce.fates import fates, standing, together
from endonce.limits import MOST_HISTORIES
from endonce.runs import closed, closed_histories, run
from endonce.texts import script_in, setup_in
from things import as_lists

PQ = "ring 9 4 pipes p q slots p -"
ONE = "ring 1 4 pipes p slots"
STAYS = ("stays",)
NOT_PUT = ("not put",)
DONE = ("done",)

# Two requests that want one letter.
RACE = "put a read p 1 | b read p 1\ngive p x"
# A script with more closed histories than may be told.
MANY = "put " + " | ".join(f"{tag} nop" for tag in "abcdef")


def made(text, setup):
    setup = setup_in(setup)
    return setup, script_in(setup, text)


def ended(setup, script, choices):
    """By tags the FATEs in the run with these choices, from what this run tells."""
    pairs = list(run(setup, closed(script), choices))
    table = {row[0]: STAYS for row in pairs[-1][1]}
    rest = run(setup, closed(script) + (("reap", 9),) * 30, choices)[len(pairs):]
    told = {}
    for event, rows in pairs + list(rest):
        if event[0] == "put":
            told.update({tag: NOT_PUT if rows else DONE if "silent" in flags else None for tag, _, flags in event[1]})
    told.update(table)
    for event, rows in pairs + list(rest):
        if event[0] == "reap":
            told.update({row[0]: row[1] for row in rows if not row[3] and row[1][0] != "freed"})
    return told


class FatesTest(unittest.TestCase):
    def told(self, text, tag, *wanted, setup=PQ):
        """The FATEs are these; each one's choices lead to it, and no lesser ones of a closed history do."""
        setup, script = made(text, setup)
        rows = fates(setup, script, tag)
        self.assertIsInstance(rows, list)
        self.assertTrue(all(row.__class__ is tuple and row[0].__class__ is tuple and row[1].__class__ is list for row in rows))
        with self.subTest(text=text, tag=tag):
            self.assertEqual(repr([fate for fate, _ in rows]), repr(sorted(wanted)))
            for fate, choices in rows:
                self.assertEqual(ended(setup, script, choices)[tag], fate)
                others = [other for _, other in closed_histories(setup, script) if ended(setup, script, other)[tag] == fate]
                self.assertEqual(choices, min(others))
        return [choices for _, choices in rows]

    def test_the_example_of_the_document(self):
        setup = (4, 4, ("p",), ())
        race = (("put", (("r", ("read", ("pipe", "p"), 1), ("link",)), ("t", ("linktimeout", 5), ()))), ("give", "p", "a"), ("clock", 9))
        self.assertEqual([fate for fate, choices in fates(setup, race, "r")], [("cancelled", "t", True), ("text", "p", 0, "a")])
        self.assertEqual([fate for fate, choices in fates(setup, race, "t")], [("off",), ("time",)])
        self.assertEqual((together(setup, race, (("r", ("text", "p", 0, "a")), ("t", ("time",)))) is None, standing(setup, race)), (True, ([], [])))
        behind = (("put", (("r", ("read", ("pipe", "p"), 1), ()), ("d", ("nop",), ("drain",)), ("c", ("cancel", "r"), ()))),)
        self.assertEqual(standing(setup, behind), (["c", "d", "r"], ["c", "d", "r"]))

    def test_a_letter(self):
        self.assertEqual(self.told("put r read p 2\ngive p a", "r", ("text", "p", 0, "a")), [[]])
        self.told("put r read p 2\ngive p a\ngive p b", "r", ("text", "p", 0, "a"), ("text", "p", 0, "ab"))
        self.told(RACE, "a", STAYS, ("text", "p", 0, "x"))
        self.told(RACE, "b", STAYS, ("text", "p", 0, "x"))
        self.told("put s reads p 1\ngive p a", "s", STAYS)
        self.told("put r read p 1 pick\ngive p a\nlend 1", "r", ("no buffer", "p", 0, 0), ("picked", "p", 0, "a", 0))

    def test_a_cancel(self):
        lot = "put r read p 1 | c cancel r"
        self.told(lot, "r", ("cancelled", "c", False), ("cancelled", "c", True))
        self.told(lot, "c", ("took", False), ("took", True))
        self.told(lot + "\ngive p a", "c", ("gone",), ("took", False), ("took", True))
        self.told("put w work bad | k cancelall", "w", ("bad",), ("cancelled", "k", False))
        self.told("put w work bad | k cancelall", "k", ("all", (), ()), ("all", (), ("w",)), ("all", (("w", False),), ()))

    def test_a_linktimeout_and_a_chain(self):
        lot = "put r read p 1 link | t linktimeout 5 | n nop"
        self.told(lot, "n", STAYS)
        self.told(lot, "t", STAYS)
        self.told(lot + "\nclock 5", "t", ("time",))
        self.told(lot + "\nclock 5", "n", ("broken", "r"))
        self.told(lot + "\nclock 5\ngive p a", "n", ("broken", "r"), DONE)
        self.told(lot + "\nclock 5\ngive p a", "t", ("off",), ("time",))

    def test_a_stop(self):
        self.told("put w work good\nstop", "w", DONE, ("stopped", False))
        self.told("put r read p 1\nstop", "r", ("stopped", False), ("stopped", True))

    def test_one_that_is_not_put(self):
        self.assertEqual(self.told("stop\nput a nop", "a", NOT_PUT), [[]])
        self.told("put a nop | b nop\nput c nop | d nop silent", "c", DONE, NOT_PUT, setup=ONE)
        self.told("put a nop | b nop\nput c nop | d nop silent", "d", DONE, NOT_PUT, setup=ONE)
        self.told("put a nop | b nop\nput z nop silent | r read p 1", "r", STAYS, NOT_PUT, setup=ONE)

    def test_silent_ones(self):
        self.assertEqual(self.told("put a nop silent", "a", DONE), [[]])
        self.told("put r read p 1 link | a nop silent", "a", STAYS)
        self.told("put w work good silent | c cancel w", "w", ("cancelled", "c", False), DONE)
        self.told("put r read p 1 link | a nop silent\nstop", "a", ("stopped", False))

    def test_turns_and_buffers(self):
        self.told("put r read #1 1 | u update 1 p\ngive p a", "r", ("bare",), ("text", "p", 0, "a"))
        self.told("put u update 1 p | v update 1 q", "u", ("turn", 1), ("turn", 2))
        self.told("put h shut p | i shut p", "h", DONE, ("shut already", "i"))
        self.told("put h shut p | w write p a", "w", ("broken pipe", "p", "h"), ("wrote", "p", 0))

    def test_the_least_choices(self):
        setup, script = made("put a nop | c cancel a", PQ)
        self.assertEqual(fates(setup, script, "a"), [(("cancelled", "c", False), [0, 2]), (DONE, [])])
        self.assertEqual(fates(setup, script, "c"), [(("gone",), []), (("took", False), [0, 2])])
        setup, script = made("put w work good\nstop", PQ)
        # The stop comes first unless it is told to wait.
        self.assertEqual(fates(setup, script, "w"), [(DONE, [0, 1]), (("stopped", False), [])])

    def test_no_tag_and_too_many(self):
        setup, script = made(MANY, PQ)
        for tag in ("z", "nop", ""):
            with self.assertRaises(NoTag) as caught:
                fates(setup, script, tag)
            self.assertEqual(caught.exception.tag, tag)
        with self.assertRaises(TooMany) as caught:
            fates(setup, script, "a")
        self.assertEqual(caught.exception.many, MOST_HISTORIES)
        with self.assertRaises(NoTag):
            fates(setup, (), "a")
        # A cancel only names the tag.
        setup, script = made("put a nop\nput c cancel a", PQ)
        with self.assertRaises(NoTag):
            fates(setup, script[:1], "c")

    def test_lists_and_names_of_arguments(self):
        setup, script = made("put r read #0 1 | u update 0 -\ngive p a", PQ)
        wanted = fates(setup, script, "r")
        given = [as_lists(setup), as_lists(script), "r"]
        copies = deepcopy(given)
        self.assertEqual(repr(fates(*given)), repr(wanted))
        self.assertEqual(given, copies)
        self.assertEqual(fates(tag="r", script=script, setup=setup), wanted)
        fates(setup, script, "r")[0][1].append(5)
        fates(setup, script, "r").clear()
        self.assertEqual(fates(setup, script, "r"), wanted)


class TogetherTest(unittest.TestCase):
    def check(self, text, *wanted, setup=PQ):
        """The choices are the least of the closed histories in which all these FATEs are told, or None if there are none."""
        setup, script = made(text, setup)
        self.assertTrue(is_script(setup, script))
        told = together(setup, script, wanted)
        found = [choices for _, choices in closed_histories(setup, script)]
        fitting = [choices for choices in found if all(ended(setup, script, choices)[tag] == fate for tag, fate in wanted)]
        with self.subTest(text=text, wanted=wanted):
            self.assertEqual(told, min(fitting, default=None))
        return told

    def test_two_that_want_one_letter(self):
        letter = ("text", "p", 0, "x")
        self.assertEqual(self.check(RACE, ("a", letter), ("b", STAYS)), [])
        self.assertIsNotNone(self.check(RACE, ("b", letter), ("a", STAYS)))
        self.assertIsNone(self.check(RACE, ("a", letter), ("b", letter)))
        self.assertIsNone(self.check(RACE, ("a", STAYS), ("b", STAYS)))

    def test_a_fate_that_cannot_be(self):
        self.assertIsNone(self.check(RACE, ("a", DONE)))
        self.assertIsNone(self.check(RACE, ("a", NOT_PUT)))
        self.assertIsNone(self.check("stop\nput a nop", ("a", DONE)))

    def test_an_empty_want(self):
        self.assertEqual(self.check(RACE), [])
        self.assertEqual(self.check("put a nop | b nop\nreap 1"), [])
        self.assertEqual(self.check(""), [])

    def test_a_tag_wanted_twice(self):
        letter = ("text", "p", 0, "x")
        self.assertEqual(self.check(RACE, ("b", letter), ("b", letter)), self.check(RACE, ("b", letter)))
        self.assertIsNone(self.check(RACE, ("b", letter), ("b", STAYS)))

    def test_ends_of_several_kinds(self):
        text = "put r read p 1 link | t linktimeout 3 | n nop silent\nput c cancel r\ngive p a\nclock 3"
        self.assertIsNotNone(self.check(text, ("r", ("text", "p", 0, "a")), ("t", ("off",)), ("n", DONE), ("c", ("gone",))))
        self.assertIsNotNone(self.check(text, ("t", ("time",)), ("n", ("broken", "r"))))
        self.assertIsNotNone(self.check(text, ("c", ("took", True)), ("t", ("off",))))
        self.assertIsNone(self.check(text, ("c", ("took", True)), ("t", ("time",))))
        self.assertIsNotNone(self.check("put a nop | b nop\nput z nop", ("z", NOT_PUT), ("a", DONE), setup=ONE))

    def test_no_tag_and_too_many(self):
        setup, script = made(MANY, PQ)
        for wanted, tag in (((("y", DONE), ("z", DONE)), "y"), ((("a", DONE), ("z", DONE), ("y", DONE)), "z")):
            with self.assertRaises(NoTag) as caught:
                together(setup, script, wanted)
            self.assertEqual(caught.exception.tag, tag)
        for wanted in ((), (("a", DONE),), (("a", STAYS),)):
            with self.assertRaises(TooMany) as caught:
                together(setup, script, wanted)
            self.assertEqual(caught.exception.many, MOST_HISTORIES)

    def test_lists_and_names_of_arguments(self):
        setup, script = made("put r read p 1 | k cancelall", PQ)
        wanted = (("k", ("all", (("r", True),), ())), ("r", ("cancelled", "k", True)))
        choices = together(setup, script, wanted)
        self.assertIsInstance(choices, list)
        given = [as_lists(setup), as_lists(script), as_lists(wanted)]
        copies = deepcopy(given)
        self.assertEqual(together(*given), choices)
        self.assertEqual(given, copies)
        self.assertEqual(together(wanted=wanted, script=script, setup=setup), choices)
        together(setup, script, wanted).append(7)
        self.assertEqual(together(setup, script, wanted), choices)


class StandingTest(unittest.TestCase):
    def check(self, always, sometimes, text, setup=PQ):
        with self.subTest(text=text):
            self.assertEqual(repr(standing(*made(text, setup))), repr((always.split(), sometimes.split())))

    def test_who_stays(self):
        self.check("", "", "")
        self.check("", "", "put a nop | b nop silent")
        self.check("r", "r", "put r read p 1 | a nop")
        self.check("n r t", "n r t", "put r read p 1 link | t linktimeout 5 | n nop")
        self.check("", "a b", RACE)
        self.check("", "", RACE + "\nstop")
        self.check("", "s", "put s read p 1 | t timeout 3 | c cancel t\ngive p a\ntake p 1")
        self.check("", "", "put s read p 1 | c cancel s\ngive p a\ntake p 1")

    def test_who_is_not_put(self):
        self.check("a z", "", "stop\nput z nop | a nop")
        # c is not put, or it ends.
        self.check("", "", "put a nop | b nop\nput c nop", ONE)
        # r is not put, or it stays.
        self.check("r", "r", "put a nop | b nop\nput r read p 1", ONE)

    def test_too_many(self):
        with self.assertRaises(TooMany) as caught:
            standing(*made(MANY, PQ))
        self.assertEqual(caught.exception.many, MOST_HISTORIES)

    def test_lists_and_names_of_arguments(self):
        setup, script = made(RACE, PQ)
        given = [as_lists(setup), as_lists(script)]
        copies = deepcopy(given)
        self.assertEqual(repr(standing(*given)), repr(([], ["a", "b"])))
        self.assertEqual(given, copies)
        self.assertEqual(standing(script=script, setup=setup), ([], ["a", "b"]))
        standing(setup, script)[1].clear()
        self.assertEqual(standing(setup, script), ([], ["a", "b"]))


if __name__ == "__main__":
    unittest.main()
