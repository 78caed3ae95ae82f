import unittest
from copy import deepcopy
from itertools import permutations
from math import factorial

from endonce.data import is_closed, is_history, script_of
from endonce.errors import NotClosed, TooMany
from endonce.limits import MOST_HISTORIES, MOST_SETS
from endonce.runs import closed, closed_histories, run, runs_many, steps_of
from endonce.texts import history_text, script_in, setup_in
from searches import closed_in
from things import as_lists

P = "ring 4 4 pipes p slots"
NOP = ("nop",)


def script(text):
    return script_in(setup_in("ring 9 4 pipes p q slots p -"), text)


class RunTest(unittest.TestCase):
    SETUP = (4, 4, ("p",), ())
    SCRIPT = script("put a nop | b nop\nclock 1\nquiet\nreap 9")

    def check(self, choices, wanted, lots=SCRIPT, setup=SETUP):
        """What is done, as words with the tags and numbers of the steps."""
        told = steps_of(setup, lots, choices)
        self.assertIsInstance(told, list)
        self.assertTrue(all(step.__class__ is tuple for step in told))
        self.assertEqual("; ".join(" ".join(str(part) for part in step) for step in told), wanted)

    def test_the_example_of_the_document(self):
        lots = (("put", (("x", ("read", ("pipe", "p"), 1), ("link",)), ("y", NOP, ()), ("c", ("cancel", "x"), ()))), ("quiet",), ("reap", 9))
        self.assertEqual(run(self.SETUP, lots)[-1][1], (
            ("x", ("cancelled", "c", True), None, False, False), ("y", ("broken", "x"), None, False, False), ("c", ("took", True), None, False, False)))

    def test_no_choices(self):
        # The clock comes first, and what the quiet waits for comes in its order.
        wanted = "user 0; user 1; begin a; begin b; post a 0; post b 0; user 2; user 3"
        self.check((), wanted)
        self.check([], wanted)
        self.assertEqual(steps_of(self.SETUP, self.SCRIPT), steps_of(self.SETUP, self.SCRIPT, ()))
        self.assertEqual(run(self.SETUP, self.SCRIPT), (
            (("put", (("a", NOP, ()), ("b", NOP, ()))), None), (("clock", 1), None), (("quiet",), ()),
            (("reap", 9), (("a", ("done",), None, False, False), ("b", ("done",), None, False, False)))))

    def test_choices_of_steps(self):
        self.check([0, 2], "user 0; begin b; user 1; begin a; post b 0; post a 0; user 2; user 3")
        self.check([0, 1, 1, 2, 1], "user 0; begin a; begin b; post b 0; post a 0; user 1; user 2; user 3")
        # 0 and 1 do the same where a quiet waits.
        self.check([0, 0, 1, 0, 2], "user 0; user 1; begin a; begin b; post b 0; post a 0; user 2; user 3")

    def test_choices_above_all_that_is_possible(self):
        self.check([0, 9], "user 0; begin b; user 1; begin a; post b 0; post a 0; user 2; user 3")
        # No step is possible ahead of the put, so the user event is done.
        self.check([7, 0, 3], "user 0; user 1; begin b; begin a; post b 0; post a 0; user 2; user 3")

    def test_choices_behind_the_end_of_the_run(self):
        self.check([0] * 50 + [3], "user 0; user 1; begin a; begin b; post a 0; post b 0; user 2; user 3")
        # A run ends with its last event, though steps are possible.
        lots = script("put a nop")
        self.check([0, 1, 1, 1], "user 0", lots)
        self.assertEqual(run(self.SETUP, lots, [0, 1]), (((lots[0]), None),))
        self.check((), "", ())
        self.assertEqual(run(self.SETUP, ()), ())

    def test_fires_frees_and_notes(self):
        lots = script("put s reads #0 1 | u update 0 -\ngive p ab\nstop\nquiet\nreap 9")
        self.check([0, 1, 0, 1, 2, 0], "user 0; begin s; user 1; begin u; post u 0; user 2; free 0 0; post s 0; note 0 0; user 3; user 4", lots, (4, 4, ("p",), ("p",)))
        self.check([0, 1, 0, 2, 2], "user 0; begin s; user 1; fire s 0; fire s 1; user 2; post s 0; post s 1; post s 2; post u 0; user 3; user 4",
                   lots, (4, 4, ("p",), ("p",)))

    def test_what_is_told(self):
        lots = script("put s reads p 1 pick\nlend 1\ngive p ab\ntake p 1\nquiet\nreap 1\nreap 9")
        told = history_text(run(self.SETUP, lots, [0, 1, 0, 0, 1, 0]))
        self.assertEqual(told, "put s reads p 1 pick\nlend 1\ngive p ab -> 0\ntake p 1 -> 1 b\nquiet -> s yes -\nreap 1 -> s picked p 0 a 0 +\nreap 9 -> -")

    def test_lists_and_names_of_arguments(self):
        given = [as_lists(self.SETUP), as_lists(self.SCRIPT), [0, 2]]
        copies = deepcopy(given)
        self.assertEqual(repr(run(*given)), repr(run(self.SETUP, self.SCRIPT, (0, 2))))
        self.assertEqual(repr(steps_of(*given)), repr(steps_of(self.SETUP, self.SCRIPT, (0, 2))))
        self.assertEqual(repr(closed(given[1])), repr(closed(self.SCRIPT)))
        self.assertEqual(given, copies)
        self.assertEqual(run(choices=[0, 2], script=self.SCRIPT, setup=self.SETUP), run(*given))
        self.assertEqual(steps_of(choices=[0, 2], script=self.SCRIPT, setup=self.SETUP), steps_of(*given))
        self.assertEqual(closed(script=self.SCRIPT), closed(self.SCRIPT))
        steps_of(*given).clear()
        self.assertEqual(len(steps_of(*given)), 8)

    def test_closed(self):
        self.assertEqual(closed(()), (("quiet",),))
        self.assertEqual(closed(self.SCRIPT), self.SCRIPT + (("quiet",),))
        self.assertEqual(closed([["quiet"]]), (("quiet",), ("quiet",)))


class ClosedHistoriesTest(unittest.TestCase):
    def told(self, text, setup="ring 9 4 pipes p q slots p -"):
        """The closed histories of a script, looked at for all that is promised of each list of them."""
        made = setup_in(setup)
        lots = script_in(made, text)
        rows = closed_histories(made, lots)
        self.assertIsInstance(rows, list)
        found = [choices for _, choices in rows]
        self.assertEqual(found, sorted(found))
        self.assertEqual(len(set(history for history, _ in rows)), len(rows))
        self.assertEqual(len(set(tuple(choices) for choices in found)), len(rows))
        for row in rows:
            history, choices = row
            self.assertEqual((row.__class__, history.__class__, choices.__class__), (tuple, tuple, list))
            self.assertTrue(is_history(made, history) and is_closed(history))
            self.assertEqual(script_of(history)[:len(lots) + 1], closed(lots))
            self.assertEqual(run(made, closed(lots), choices), history[:len(lots) + 1])
            rest = history[len(lots) + 1:]
            self.assertTrue(rest and all(event == ("reap", 9) for event, _ in rest))
            self.assertEqual([told == () for _, told in rest], [False] * (len(rest) - 1) + [True])
            self.assertTrue(not choices or choices[-1] > 0)
        return rows

    def many(self, wanted, text, setup="ring 9 4 pipes p q slots p -"):
        with self.subTest(text=text):
            rows = self.told(text, setup)
            self.assertEqual(len(rows), wanted)
            return rows

    def test_the_example_of_the_document(self):
        both = (("put", (("w", ("write", ("pipe", "p"), "ab"), ()), ("r", ("read", ("pipe", "p"), 2), ()))),)
        some = closed_histories((2, 4, ("p",), ()), both)
        self.assertEqual([choices for history, choices in some], [[], [0, 0, 0, 0, 0, 2]])
        self.assertEqual([[row[0] for row in history[2][1]] for history, choices in some], [["w", "r"], ["r", "w"]])
        self.assertEqual([runs_many((2, 4, ("p",), ()), history) for history, choices in some], [7, 3])

    def test_no_events(self):
        self.assertEqual(self.told(""), [(((("quiet",), ()), (("reap", 9), ())), [])])
        self.many(1, "clock 1\nlend 2\ngive p a\ntake p 2\nreap 4\nquiet\nreap 4\nstop")

    def test_requests_side_by_side(self):
        self.many(1, "put a nop")
        self.many(2, "put a nop | b nop")
        rows = self.many(6, "put a nop | b work good | c timeout 0")
        self.assertEqual(sorted("".join(row[0] for row in history[2][1]) for history, _ in rows), sorted("".join(row) for row in permutations("abc")))
        self.many(24, "put a nop | b nop\nput c nop | d nop")
        # The posts of those that stay are none.
        self.many(2, "put a nop | r read p 1 | b nop")

    def test_requests_in_a_chain(self):
        # Their posts may come in any order.
        self.many(6, "put a nop link | b nop link | c nop")
        self.many(2, "put w work bad link | b nop")
        self.many(24, "put w work bad link | b nop hard | t linktimeout 9 | c nop")

    def test_silent_ones(self):
        self.many(1, "put a nop silent | b work good silent | c nop link silent | d nop silent")
        self.many(1, "put a nop silent | b nop")
        # A silent work that is cancelled is told, and one that is not is told by the cancel.
        rows = self.many(4, "put w work good silent | c cancel w")
        self.assertEqual(sorted(" ; ".join(" ".join([row[0], row[1][0]]) for row in history[2][1]) for history, _ in rows),
                         ["c gone", "c late", "c took ; w cancelled", "w cancelled ; c took"])

    def test_two_fates_of_a_read(self):
        # r takes the letter and t is off, or t ends it; each time in two orders.
        rows = self.many(4, "put r read p 1 link | t linktimeout 5\ngive p a\nclock 9")
        self.assertEqual(sorted(set(row[1] for history, _ in rows for row in history[4][1] if row[0] == "r")),
                         [("cancelled", "t", True), ("text", "p", 0, "a")])
        # Without the clock there is one fate, without the letter the other one.
        self.many(2, "put r read p 1 link | t linktimeout 5\ngive p a")
        self.many(2, "put r read p 1 link | t linktimeout 5\nclock 9")
        # r or the take gets the letter; r stays without it.
        self.many(2, "put r read p 1\ngive p a\ntake p 1")
        # A reads takes two letters at once, or one by one; of two it takes none, one or both ahead of the take.
        self.many(2, "put s reads p 2\ngive p a\ngive p b")
        self.many(3, "put s reads p 1\ngive p ab\ntake p 2")

    def test_reaps_in_between(self):
        # a was posted ahead of the reap, or behind it.
        self.many(2, "put a nop\nreap 3")
        # Two orders, cut at three places; a reap of one cuts at two.
        self.many(6, "put a nop | b nop\nreap 3")
        self.many(4, "put a nop | b nop\nreap 1")
        # With space for one, b is kept or not; without a reap it is.
        self.many(6, "put a nop | b nop\nreap 1", "ring 1 4 pipes slots")
        self.many(2, "put a nop | b nop", "ring 1 4 pipes slots")
        # A put is told "busy" if both are posted.
        rows = self.many(4, "put a nop | b nop\nput c nop silent", "ring 1 4 pipes slots")
        self.assertEqual(sorted(str(history[1][1]) for history, _ in rows), ["None", "None", "busy", "busy"])

    def test_quiets_in_between(self):
        self.many(1, "put a nop\nquiet\nreap 3")
        self.many(2, "put a nop | b nop\nquiet\nput c nop\nquiet")
        self.many(2, "put a nop\nquiet\nput b nop\nreap 9\nquiet\nreap 9")

    def test_a_stop_and_a_cancel(self):
        # a ends by itself, or is stopped; z is not put.
        self.many(2, "put a nop\nstop\nput z nop")
        # Stopped ahead of its begin, or as one that goes on and ends.
        self.many(2, "put w work good\nstop")
        # took False, took True or gone: two orders each.
        self.many(6, "put r read p 1 | c cancel r\ngive p a")
        self.many(1, "put r read p 1 | d nop drain")

    def test_frees_and_slots(self):
        # r looks at turn 0 and takes the letter, or at turn 1 and is bare.
        rows = self.many(12, "put r read #0 1 | u update 0 -\ngive p a")
        self.assertEqual(sorted(set((row[1][0], row[2]) for history, _ in rows for row in history[3][1] if row[0] == "r")), [("bare", 1), ("text", 0)])

    def test_buffers(self):
        # a finds no buffer, or takes that which is lent behind it.
        self.many(2, "give p x\nput a read p 1 pick\nlend 1")
        # One of both takes the buffer, though they are of two pipes; each time in two orders.
        self.many(4, "lend 1\ngive p x\ngive q y\nput a read p 1 pick | b read q 1 pick")

    def test_a_chain_that_breaks_where_it_begins(self):
        # c ends m ahead of r, whose turn has no pipe, or r breaks m first; each time in six orders.
        rows = self.many(12, "put r read #1 1 link | m nop | c cancel m")
        self.assertEqual(sorted(set(row[1] for history, _ in rows for row in history[2][1] if row[0] == "m")), [("broken", "r"), ("cancelled", "c", False)])

    def test_the_choices_have_0_where_0_does_the_same(self):
        self.assertEqual([choices for _, choices in self.told("put a nop | b nop")], [[], [0, 0, 0, 2]])
        self.assertEqual([choices for _, choices in self.told("put a nop\nreap 3")], [[], [0, 1, 1]])
        self.assertEqual([choices for _, choices in self.told("put w work good\nstop")], [[], [0, 1]])
        # In front of a reap 1 is the first step; in front of a quiet 0 is. Both begin ahead of the reap, as this is less than [0, 1, 2].
        self.assertEqual([choices for _, choices in self.told("put a nop | b nop\nreap 1")], [[], [0, 0, 0, 0, 2], [0, 1, 1, 1], [0, 1, 1, 2]])

    def test_three_hundred(self):
        # c is told "late" or "gone": 3 completions in 6 orders, of which the reaps tell 0 or 1, then none or more: 4 + 3 cuts.
        # Or w is cancelled: 4 completions in 24 orders with 5 + 4 cuts.
        lot = "put w work good silent | c cancel w | a nop | b nop\n"
        self.assertEqual(2 * 6 * 7 + 24 * 9, MOST_HISTORIES)
        self.many(300, lot + "reap 1\nreap 9")
        # Behind them all is reaped at once.
        self.many(300, lot + "reap 1\nreap 9\ngive p a")

    def test_more_than_three_hundred(self):
        setup = setup_in(P)
        # 3 completions in 6 orders, each cut by five reaps: 336; by four of them: 210.
        self.many(210, "put a nop | b nop | c nop" + "\nreap 9" * 4)
        for text in ("put a nop | b nop | c nop" + "\nreap 9" * 5, "put a nop | b nop | c nop | d nop | e nop | f nop",
                     "put w work good silent | c cancel w | a nop | b nop\nreap 2\nreap 9", "put a work good | b work bad | c nop | d nop | e nop | f nop | g nop"):
            with self.subTest(text=text), self.assertRaises(TooMany) as caught:
                closed_histories(setup, script_in(setup, text))
            self.assertEqual(caught.exception.many, 300)

    def test_steps_that_touch_nothing_else_do_not_make_it_long(self):
        works = " | ".join(f"{tag} work good silent" for tag in "abcdefg")
        self.many(1, f"put {works}\n" + "\n".join(f"clock {at}" for at in range(1, 12)))

    def test_lists_and_names_of_arguments(self):
        setup = setup_in("ring 2 4 pipes p slots p")
        lots = script("put r read #0 1 | u update 0 -\ngive p a")
        wanted = closed_histories(setup, lots)
        given = [as_lists(setup), as_lists(lots)]
        copies = deepcopy(given)
        self.assertEqual(repr(closed_histories(*given)), repr(wanted))
        self.assertEqual(given, copies)
        self.assertEqual(closed_histories(script=lots, setup=setup), wanted)
        closed_histories(setup, lots)[0][1].append(1)
        closed_histories(setup, lots).clear()
        self.assertEqual(closed_histories(setup, lots), wanted)


class RunsManyTest(unittest.TestCase):
    def many(self, wanted, *lines, setup=P):
        with self.subTest(lines=lines):
            self.assertEqual(repr(runs_many(*closed_in(setup, *lines))), str(wanted))

    def test_known_numbers(self):
        self.many(1, "quiet -> -")
        self.many(1, "put a nop", "quiet -> -", "reap 9 -> a done")
        # The begins in any order; a post behind its begin and behind the post ahead of it.
        self.many(6, "put a nop silent | b nop silent | c nop silent", "quiet -> -")
        self.many(2, "put a nop silent | b nop silent", "quiet -> -")
        self.many(6, "put a work good silent | b work good silent", "quiet -> -")
        self.many(3, "put a nop | b nop", "quiet -> -", "reap 9 -> a done ; b done")
        # The clock comes at any of the places between the put and the quiet.
        self.many(3, "put a nop", "clock 1", "quiet -> -", "reap 9 -> a done")
        self.many(factorial(8), "put " + " | ".join(f"{tag} nop silent" for tag in "abcdefgh"), "quiet -> -")

    def test_histories_that_no_run_has(self):
        self.many(0, "put a nop", "quiet -> -")
        self.many(0, "put r read p 1", "reap 9 -> r text p 0 a", "give p a -> 0", "quiet -> -")

    def many_sets(self, clocks):
        """A history with 3 ** 4 * 7 ** 2 sets behind the put, and one more for each other pair, the empty one included."""
        works = [f"{tag} work good{flag} silent" for tag, flag in zip("abcdefghij", (" link", " link", "", " link", " link", "", "", "", "", ""))]
        lines = [f"clock {at + 1}" for at in range(clocks)]
        return closed_in(P, *lines, "put " + " | ".join(works), "quiet -> -")

    def test_4000_sets_and_4001(self):
        self.assertEqual((3 ** 4 * 7 ** 2 + 3 + 28, MOST_SETS), (4000, 4000))
        self.assertEqual(runs_many(*self.many_sets(28)), factorial(20) // (factorial(6) ** 2 * 2 ** 4))
        with self.assertRaises(TooMany) as caught:
            runs_many(*self.many_sets(29))
        self.assertEqual(caught.exception.many, 4000)

    def test_errors_in_their_order(self):
        setup, history = self.many_sets(29)
        for open_one in (history[:-1], history + ((("lend", 1), None),), ()):
            with self.assertRaises(NotClosed):
                runs_many(setup, open_one)
        # One that is not possible, by its numbers or by a ring, has no runs, however many sets there are.
        lines = history_text(history).split("\n")
        self.assertEqual(runs_many(*closed_in(P, "take p 1 -> 0 a", *lines[:-1])), 0)
        self.assertEqual(runs_many(*closed_in(P, "put r read p 1", "reap 9 -> r text p 0 x", "give p x -> 0", *lines[:-1])), 0)

    def test_lists_and_names_of_arguments(self):
        setup, history = closed_in(P, "put a nop | b nop", "quiet -> -", "reap 9 -> a done ; b done")
        given = [as_lists(setup), as_lists(history)]
        copies = deepcopy(given)
        self.assertEqual(runs_many(*given), 3)
        self.assertEqual(given, copies)
        self.assertEqual(runs_many(history=history, setup=setup), 3)


if __name__ == "__main__":
    unittest.main()
