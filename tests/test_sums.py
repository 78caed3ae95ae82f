import unittest
from copy import deepcopy

from endonce import begin_rows, by_rows, chain_rows, pipe_rows, queue_rows, quiet_rows
from endonce.errors import NotClosed
from endonce.facts import Facts
from endonce.sums import sums
from endonce.texts import history_in, history_text, setup_in
from things import as_lists

ROWS = (
    ("reap", queue_rows.bad_reaps), ("kept", queue_rows.bad_kept), ("stop", queue_rows.bad_stops), ("end", queue_rows.bad_ends),
    ("begin", begin_rows.bad_begins), ("slot", begin_rows.bad_slots), ("by", by_rows.bad_by), ("chain", chain_rows.bad_chains),
    ("letters", pipe_rows.bad_letters), ("ahead", chain_rows.bad_ahead), ("freed", pipe_rows.bad_freed), ("buffer", pipe_rows.bad_buffers),
    ("time", queue_rows.bad_times), ("quiet", quiet_rows.bad_quiets))

PQ = "ring 9 4 pipes p q slots p -"


def text_of(lines):
    """The text of a closed history: these lines, a quiet that tells () if none stands ahead of the reaps, an empty reap."""
    rows = [line.strip() for line in lines.strip().split("\n")]
    reaps = []
    while rows and rows[-1].startswith("reap"):
        reaps.insert(0, rows.pop())
    if not rows or not rows[-1].startswith("quiet"):
        rows.append("quiet -> -")
    return "\n".join([row for row in rows + reaps + ["reap 9 -> -"] if row])


class SumsTest(unittest.TestCase):
    def told(self, setup, lines):
        setup = setup_in(setup)
        history = history_in(setup, text_of(lines))
        self.assertEqual(history_text(history), text_of(lines))
        return sums(setup, history)

    def fits(self, *cases, setup=PQ):
        for lines in cases:
            with self.subTest(setup=setup, history=text_of(lines)):
                self.assertIsNone(self.told(setup, lines))

    def fails(self, word, *cases, setup=PQ):
        """Each case, a pair (what, lines), fails by this row alone."""
        for what, lines in cases:
            with self.subTest(setup=setup, history=text_of(lines)):
                self.assertEqual(repr(self.told(setup, lines)), repr((word, what)))
                made = setup_in(setup)
                facts = Facts(made, history_in(made, text_of(lines)))
                self.assertEqual([row for row, bad_of in ROWS if len(bad_of(facts)) > 0], [word])


class ClosedTest(SumsTest):
    def test_not_closed(self):
        setup = setup_in(PQ)
        for text in ("", "quiet -> -", "reap 1 -> -", "quiet -> -\nreap 1 -> -\nreap 1 -> -", "quiet -> -\nreap 1 -> -\nstop",
                     "put a nop\nquiet -> -\nreap 1 -> a done", "give p a -> 1\nquiet -> -\nlend 1\nreap 1 -> -"):
            with self.subTest(text=text), self.assertRaises(NotClosed):
                sums(setup, history_in(setup, text))

    def test_closed(self):
        for lines in ("", "lend 1", "clock 5", "stop", "quiet -> -\nreap 3 -> -\nclock 1"):
            self.assertIsNone(self.told(PQ, lines))

    def test_the_examples_of_the_document(self):
        history = ((("give", "p", "ab"), ("given", 0)), (("take", "p", 1), (0, "b")), (("quiet",), ()), (("reap", 1), ()))
        self.assertEqual(sums((2, 3, ("p",), ()), history), ("letters", "p"))
        late = (
            (("put", (("r", ("read", ("slot", 0), 1), ("link",)), ("u", ("update", 0, "p"), ()))), None), (("give", "p", "a"), ("given", 0)),
            (("quiet",), ()), (("reap", 5), (("r", ("text", "p", 0, "a"), 1, False, False), ("u", ("turn", 1), None, False, False))), (("reap", 5), ()))
        self.assertIsNone(sums((2, 4, ("p",), (None,)), late))

    def test_lists_and_names_of_arguments(self):
        setup = setup_in(PQ)
        history = history_in(setup, text_of("put r read #0 1 | u update 0 q | l cancelall\nreap 9 -> u turn 1 ; r cancelled l yes @0 ; l all r yes / ; #0 freed 0"))
        for given in (history, as_lists(history)):
            copies = deepcopy((setup, given))
            self.assertIsNone(sums(setup, given))
            self.assertIsNone(sums(as_lists(setup), given))
            self.assertIsNone(sums(history=given, setup=setup))
            self.assertEqual(repr((setup, given)), repr(copies))
        spoiled = as_lists(history)
        spoiled[2][1][3][1][1] = 1
        self.assertEqual(sums(as_lists(setup), spoiled), ("freed", 0))


class QueueRowsTest(SumsTest):
    def test_reap(self):
        nops = "put a nop | b nop | c nop"
        self.fits(f"{nops}\nreap 2 -> a done ; b done\nreap 2 -> c done", setup="ring 3 4 pipes slots")
        self.fits(f"{nops}\nreap 2 -> a done ; b done\nreap 2 -> c done !", setup="ring 2 4 pipes slots")
        self.fails("reap", (2, f"{nops}\nreap 2 -> a done ; b done ; c done"), setup="ring 3 4 pipes slots")
        self.fails("reap", (2, f"{nops}\nreap 9 -> a done ; b done ; c done !"), setup="ring 2 4 pipes slots")
        self.fails("reap", (3, f"{nops}\nreap 1 -> a done\nreap 1 -> b done ; c done"), setup="ring 3 4 pipes slots")
        self.fails("reap",
            (1, f"{nops}\nreap 1 -> a done ; b done\nreap 1 -> c done\nquiet -> -"),
            setup="ring 3 4 pipes slots")

    def test_reap_of_a_busy_put(self):
        setup = "ring 1 4 pipes slots"
        self.fits("put a nop | b nop\nput c nop -> busy\nreap 1 -> a done\nreap 1 -> b done !", setup=setup)
        self.fails("reap", (2, "put a nop | b nop\nreap 1 -> a done\nput c nop -> busy\nreap 1 -> b done"), setup=setup)
        self.fails("reap", (0, "put c nop -> busy"), setup=setup)
        self.fails("reap", (1, "put a nop\nput c nop -> busy\nreap 1 -> a done"), setup=setup)
        self.fails("reap",
            (1, "put a nop | b nop\nput c nop -> busy\nreap 9 -> a done ; b done"),
            setup="ring 2 4 pipes slots")

    def test_kept(self):
        setup = "ring 2 4 pipes slots"
        nops = "put a nop | b nop | c nop"
        self.fits(
            f"{nops}\nreap 2 -> a done ; b done\nreap 2 -> c done !",
            f"{nops}\nreap 2 -> a done ; b done\nreap 2 -> c done",
            setup=setup)
        self.fails("kept",
            (0, f"{nops}\nreap 2 -> a done ! ; b done\nreap 2 -> c done"),
            (1, f"{nops}\nreap 2 -> a done ; b done !\nreap 2 -> c done"),
            (0, f"{nops}\nreap 2 -> a done ! ; b done !\nreap 2 -> c done !"),
            setup=setup)

    def test_stop(self):
        self.fits(
            "stop\nput a nop -> stopped",
            "stop\ngive p quiet -> 0",
            "put a nop\nstop\nput b nop -> stopped\nquiet -> -\nquiet -> -\nreap 9 -> a stopped no",
            "put a read p 1\nquiet -> a yes -\nstop\nreap 9 -> a stopped yes")
        self.fails("stop",
            (0, "put a nop -> stopped"),
            (0, "put a nop -> stopped\nstop"),
            (2, "stop\nput a nop -> stopped\nput b nop\nreap 9 -> b done"))
        self.fails("stop",
            (2, "put a nop | b nop\nstop\nput c nop -> busy\nreap 1 -> a done\nreap 1 -> b done"),
            setup="ring 1 4 pipes slots")

    def test_stop_of_quiets(self):
        self.assertEqual(self.told(PQ, "put a read p 1\nstop\nquiet -> a yes -"), ("stop", 2))
        self.assertEqual(self.told(PQ, "put a read p 1\nstop\nquiet -> a yes -\nquiet -> -\nreap 9 -> a stopped yes"), ("stop", 2))
        self.assertEqual(self.told(PQ, "put a read p 1\nput b nop -> stopped\nstop\nquiet -> a yes -"), ("stop", 1))

    def test_end(self):
        self.fits("put a nop silent", "put a work good silent", "put a read p 1\nquiet -> a yes -")
        self.fails("end",
            ("a", "put a nop"),
            ("b", "put a nop silent | b work bad"),
            ("b", "put c nop | b nop"),
            ("a", "put a reads p 1\ngive p a -> 0\nreap 9 -> a text p 0 a +"))
        self.assertEqual(self.told(PQ, "put a read p 1\nquiet -> a yes -\nreap 9 -> a cancelled a yes"), ("end", "a"))
        self.assertEqual(self.told(PQ, "put a nop link silent | b nop\nquiet -> a no - ; b no -\nreap 9 -> a broken b ; b done"), ("end", "a"))

    def test_time(self):
        self.fits(
            "put a timeout 3\nclock 3\nreap 9 -> a time",
            "put a timeout 0\nreap 9 -> a time",
            "put a timeout 3\nclock 2\nquiet -> a yes -",
            "put a work good link | t linktimeout 3\nclock 5\nreap 9 -> t late ; a done",
            "put a timeout 9\nstop\nreap 9 -> a stopped yes",
            "put a read p 1 link | t linktimeout 3\nclock 3\nreap 9 -> a cancelled t yes ; t time")
        self.fails("time",
            ("a", "put a timeout 3\nclock 2\nreap 9 -> a time"),
            ("b", "put a timeout 1 | b timeout 2\nclock 1\nreap 9 -> a time ; b time"),
            ("a", "put a timeout 1\nreap 9 -> a time"),
            ("t", "put a work good link | t linktimeout 3\nclock 2\nreap 9 -> t late ; a done"),
            ("t", "put a read p 1 link | t linktimeout 3\nclock 1\nclock 2\nreap 9 -> a cancelled t yes ; t time"),
            ("a", "put b timeout 1 | a timeout 2\nreap 9 -> b time ; a time"))


class BeginRowsTest(SumsTest):
    def test_begin_in_order(self):
        self.fits(
            "put d timeout 1 | a read p 1 drain\nquiet -> a no - ; d yes -\nclock 1\nquiet -> a yes -\nstop\nreap 9 -> d time ; a stopped yes",
            "put d timeout 1 link | a read p 1\nquiet -> a no - ; d yes -\nstop\nreap 9 -> d stopped yes ; a stopped no")
        self.fails("begin",
            ("a", "put a read p 1\nquiet -> a yes -\nput c cancel a\nreap 9 -> a cancelled c no ; c took no"),
            ("a", "put a read p 1\nquiet -> a yes -\nstop\nreap 9 -> a stopped no"))
        self.assertEqual(self.told(PQ, "put a read p 1\nquiet -> a yes -\nquiet -> a no -"), ("begin", "a"))
        self.assertEqual(self.told(PQ, "put b work bad link | a read p 1\nquiet -> a yes - ; b yes -\nquiet -> -\nreap 9 -> b bad ; a broken b"), ("begin", "a"))
        self.assertEqual(self.told(PQ, "put s reads p 1\ngive p a -> 0\nstop\nreap 9 -> s text p 0 a + ; s stopped no"), ("begin", "s"))
        self.assertEqual(self.told(PQ, "put s reads p 1\ngive p a -> 0\nreap 9 -> s text p 0 a +\nquiet -> s no -\nstop\nreap 9 -> s stopped yes"), ("begin", "s"))

    def test_begin_of_what_ends_at_once(self):
        for deed in ("nop", "shut p", "update 0 p", "cancel x", "cancelall"):
            lines = f"put x timeout 5 | a {deed}"
            self.assertEqual(self.told(PQ, f"{lines}\nquiet -> a yes - ; x yes -"), ("begin", "a"))
            self.assertEqual(self.told(PQ, f"{lines}\nput c cancel a\nquiet -> x yes -\nreap 9 -> a cancelled c yes ; c took yes"), ("begin", "a"))
            self.assertEqual(self.told(PQ, f"{lines}\nstop\nreap 9 -> x stopped yes ; a stopped yes"), ("begin", "a"))
            self.fits(
                f"{lines}\nstop\nreap 9 -> x stopped yes ; a stopped no",
                f"{lines}\nput c cancel a\nquiet -> x yes -\nreap 9 -> a cancelled c no ; c took no")

    def test_begin_of_a_work(self):
        self.fits(
            "put a work good\nput c cancel a\nreap 9 -> a cancelled c no ; c took no",
            "put a work good\nstop\nreap 9 -> a stopped no",
            "put a work good\nstop\nreap 9 -> a done")
        self.fails("begin",
            ("a", "put a work good\nput c cancel a\nreap 9 -> a cancelled c yes ; c took yes"),
            ("a", "put a work good\nstop\nreap 9 -> a stopped yes"))

    def test_begin_of_a_linktimeout(self):
        lot = "put x timeout 9 drain link | a read p 1 link | t linktimeout 3"
        self.fits(
            f"{lot}\nquiet -> a no - ; t no - ; x yes -",
            "put a read p 1 link | t linktimeout 3\nquiet -> a yes - ; t yes -",
            "put a read p 1 link | t linktimeout 3\nput c cancel t\nquiet -> a yes -\nreap 9 -> t cancelled c yes ; c took yes",
            "put a read p 1 link | t linktimeout 3\nput c cancel t\nquiet -> a yes -\nreap 9 -> t cancelled c no ; c took no")
        self.fails("begin",
            ("t", f"{lot}\nput c cancel t\nput d cancel x | e cancel a\nstop\nreap 9 -> t cancelled c yes ; c took yes ; d stopped no ; e took no ; a cancelled e no ; x stopped no"))
        self.assertEqual(self.told(PQ, "put a read p 1 link | t linktimeout 3\nquiet -> a yes - ; t no -"), ("begin", "t"))
        self.assertEqual(self.told(PQ, "put a read p 1 link | t linktimeout 3\nquiet -> a no - ; t yes -"), ("begin", "t"))
        self.assertEqual(self.told(PQ, "put a read p 1 link | t linktimeout 3\nquiet -> t yes -"), ("end", "a"))
        self.assertEqual(self.told(PQ, "put a read p 1 link | t linktimeout 3\nquiet -> t yes -\nstop\nreap 9 -> a stopped yes ; t off"), ("begin", "t"))
        self.assertEqual(self.told(PQ, f"{lot}\nclock 9\nreap 9 -> x cancelled t no ; a broken x ; t time"), ("begin", "t"))
        self.assertEqual(self.told(PQ, "put a nop link silent | t linktimeout 3\nclock 3\nreap 9 -> t time"), ("by", "t"))

    def test_begin_is_told_in_the_order_of_the_history(self):
        self.fits(
            "put d timeout 1 | s reads p 1 drain\nquiet -> d yes - ; s no -\nclock 1\ngive p a -> 0\nquiet -> s yes -\nreap 9 -> d time ; s text p 0 a +\nquiet -> s yes -")

    def test_slot(self):
        up = "put u update 0 q | v update 0 p | r read #0 1"
        self.fits(
            f"{up}\nquiet -> r yes 0\nreap 9 -> v turn 1 ; u turn 2 ; #0 freed 1",
            f"{up}\nquiet -> r yes 2\nreap 9 -> u turn 1 ; v turn 2 ; #0 freed 0 ; #0 freed 1")
        self.assertEqual(self.told(PQ, f"{up}\nquiet -> r yes 3\nreap 9 -> u turn 1 ; v turn 2 ; #0 freed 0 ; #0 freed 1"), ("slot", 0))
        for turns in ((1, 1), (0, 1), (2, 3), (1, 3), (2, 2)):
            self.assertEqual(self.told(PQ, f"{up}\nquiet -> r yes 0\nreap 9 -> v turn {turns[0]} ; u turn {turns[1]} ; #0 freed 1"), ("slot", 0))
        self.assertEqual(self.told(PQ, "put u update 1 p\nreap 9 -> u turn 2"), ("slot", 1))
        self.assertEqual(self.told(PQ, "put u update 1 p | v update 0 p\nreap 9 -> u turn 2 ; v turn 0"), ("slot", 0))

    def test_slot_of_one_turn(self):
        up = "put s reads #0 1 | u update 0 p | v update 0 p"
        end = "give p ab -> 0\nreap 9 -> u turn 1 ; v turn 2"
        self.fits(
            f"{up}\nquiet -> s yes 1\n{end} ; s text p 0 a @1 + ; s text p 1 b @1 + ; #0 freed 0\nquiet -> s yes 1")
        self.fails("slot",
            (0, f"{up}\nquiet -> s yes 1\n{end} ; s text p 0 a @1 + ; s text p 1 b @2 + ; #0 freed 0\nquiet -> s yes 1"),
            (0, f"{up}\nquiet -> s yes 2\n{end} ; s text p 0 a @1 + ; s text p 1 b @1 + ; #0 freed 0\nquiet -> s yes 1"),
            (0, f"{up}\nquiet -> s yes 1\n{end} ; s text p 0 a @2 + ; s text p 1 b @2 + ; #0 freed 0\nquiet -> s yes 1"))
        self.assertEqual(self.told(PQ, f"{up}\nstop\nreap 9 -> u turn 1 ; v turn 2 ; #0 freed 0 ; #0 freed 1 ; s stopped yes @3"), ("slot", 0))

    def test_slot_by_its_pipe(self):
        self.fits(
            "put r read #0 1\ngive p a -> 0\nreap 9 -> r text p 0 a @0",
            "put r read #1 1\nreap 9 -> r bare @0",
            "put r write #0 a\nreap 9 -> r wrote p 0 @0")
        self.fails("slot",
            (0, "put r read #0 1\ngive q a -> 0\nreap 9 -> r text q 0 a @0"),
            (1, "put r read #1 1\ngive q a -> 0\nreap 9 -> r text q 0 a @0"),
            (0, "put r write #0 a\nreap 9 -> r wrote q 0 @0"),
            (0, "put r reads #0 1 pick\ngive q a -> 0\nreap 9 -> r no-buffer q 0 0 @0"),
            (0, "put r write #0 a | h shut q\nreap 9 -> h done ; r broken-pipe q h @0"),
            (0, "put r read #0 1 | h shut q\nreap 9 -> h done ; r end q 0 h @0"),
            (0, "put r reads #0 1 pick\ngive q a -> 0\nlend 1\nstop\nreap 9 -> r picked q 0 a 0 @0 + ; r stopped yes @0"))

    def test_slot_without_a_pipe(self):
        self.fails("slot",
            (0, "put r read #0 1\nreap 9 -> r bare @0"),
            (0, "put r shut #0\nreap 9 -> r bare @0"),
            (1, "put r read #1 1\nstop\nreap 9 -> r stopped yes @0"),
            (1, "put r read #1 1\nquiet -> r yes 0"),
            (1, "put r read #1 1\nput c cancel r\nreap 9 -> r cancelled c yes @0 ; c took yes"))
        self.assertEqual(self.told(PQ, "put r shut #1\nreap 9 -> r done @0"), ("slot", 1))


class ByRowTest(SumsTest):
    def test_shuts(self):
        self.fits(
            "put h shut p | i shut #0\nreap 9 -> h done ; i shut-already h @0",
            "put h shut p | i shut q\nreap 9 -> h done ; i done",
            "put h shut #0 | i shut p | r read p 1 | w write p a\ngive p a -> shut h\nreap 9 -> h done @0 ; i shut-already h ; r end p 0 h ; w broken-pipe p h")
        self.fails("by",
            ("h", "put h shut p | i shut #0\nreap 9 -> h done ; i done @0"),
            ("a", "put h shut p | a shut p\nreap 9 -> h done ; a done"),
            ("i", "put h shut p | i shut p\nreap 9 -> h done ; i shut-already i"),
            ("i", "put h shut p | i shut p | k shut p\nreap 9 -> h done ; i shut-already k ; k shut-already h"),
            ("h", "put h shut p\nreap 9 -> h shut-already x"),
            ("h", "put h shut p | i shut q\nreap 9 -> h shut-already i ; i done"),
            ("x", "give p a -> shut x"),
            ("h", "put h shut q\ngive p a -> shut h\nreap 9 -> h done"),
            ("h", "put h shut p\ngive p a -> shut h\nstop\nreap 9 -> h stopped no"),
            ("r", "put r read p 1\nreap 9 -> r end p 0 r"),
            ("r", "put h shut q | r read p 1\nreap 9 -> h done ; r end p 0 h"),
            ("w", "put h shut p | w write p a\nreap 9 -> h done ; w broken-pipe p w"),
            ("w", "put h shut q | w write p a\nreap 9 -> h done ; w broken-pipe p h"))
        # Of two that are done neither fits, but either may be told as by.
        self.fails("by",
            ("h", "put h shut p | i shut p\ngive p a -> shut i\nreap 9 -> h done ; i done"),
            ("h", "put h shut p | i shut p\ngive p a -> shut h\nreap 9 -> h done ; i done"))
        self.fails("by", ("a", "put h shut p | i shut p\ngive p a -> shut a\nreap 9 -> h done ; i done"))

    def test_cancelled_and_took(self):
        lot = "put r read p 1 | c cancel r"
        self.fits(f"{lot}\nreap 9 -> r cancelled c yes ; c took yes", f"{lot}\nreap 9 -> r cancelled c no ; c took no")
        self.fails("by",
            ("c", f"{lot}\nreap 9 -> r cancelled c no ; c took yes"),
            ("c", f"{lot}\nreap 9 -> r cancelled c yes ; c took no"),
            ("c", f"{lot}\nstop\nreap 9 -> r stopped yes ; c took yes"),
            ("c", f"{lot}\ngive p a -> 0\nreap 9 -> c took yes ; r text p 0 a"),
            ("c", f"{lot}\nquiet -> r yes -\nreap 9 -> c took yes"),
            ("r", f"{lot}\nreap 9 -> r cancelled c yes ; c gone"),
            ("r", f"{lot}\nstop\nreap 9 -> r cancelled c yes ; c stopped no"),
            ("r", f"{lot}\nreap 9 -> r cancelled r yes ; c gone"),
            ("r", f"{lot}\nreap 9 -> r cancelled z yes ; c gone"),
            ("c", f"{lot}\nput b cancel r\nreap 9 -> r cancelled b yes ; b took yes ; c took yes"),
            ("a", "put r read p 1 | c cancel r | a timeout 0\nreap 9 -> r cancelled c yes ; c took yes ; a cancelled c no"))
        self.fails("by",
            ("a", "put a read p 1 | x timeout 0 | c cancel x\nreap 9 -> a cancelled c yes ; x cancelled c yes ; c took yes"))

    def test_none(self):
        setup = "ring 1 4 pipes slots"
        start = "put a nop | b nop\nput z nop -> busy\nreap 1 -> a done\nput c cancel z"
        self.fits(
            f"{start}\nreap 1 -> b done !\nreap 1 -> c none",
            f"{start}\nstop\nreap 1 -> b done !\nreap 1 -> c stopped no",
            setup=setup)
        self.fails("by",
            ("c", f"{start}\nreap 1 -> b done !\nreap 1 -> c gone"),
            ("c", f"{start}\nreap 1 -> b done !\nreap 1 -> c took no"),
            ("c", f"{start}\nreap 1 -> b done !\nreap 1 -> c late"),
            setup=setup)
        self.fails("by",
            ("c", "put a nop | c cancel a\nreap 9 -> a done ; c none"),
            ("c", "put a timeout 5 | c cancel a\nquiet -> a yes -\nreap 9 -> c none"))

    def test_all(self):
        lot = "put r read p 1 | w work good | k cancelall | x timeout 0"
        self.fits(
            f"{lot}\nreap 9 -> r cancelled k yes ; k all r yes / w ; w done ; x time",
            f"{lot}\nreap 9 -> r cancelled k no ; w cancelled k no ; k all r no w no / ; x time",
            f"{lot}\nquiet -> -\nstop\nreap 9 -> w done ; r cancelled k yes ; k all r yes / ; x time")
        self.fails("by",
            ("k", f"{lot}\nreap 9 -> r cancelled k yes ; k all r no / w ; w done ; x time"),
            ("k", f"{lot}\ngive p a -> 0\nreap 9 -> r text p 0 a ; k all r yes / w ; w done ; x time"),
            ("r", f"{lot}\nreap 9 -> r cancelled k yes ; k all / w ; w done ; x time"),
            ("k", f"{lot}\nreap 9 -> r cancelled k yes ; k all r yes / w x ; w done ; x time"),
            ("k", f"{lot}\nreap 9 -> r cancelled k yes ; k all r yes / r w ; w done ; x time"),
            ("k", f"{lot}\nreap 9 -> r cancelled k yes ; k all r yes / w z ; w done ; x time"),
            ("w", f"{lot}\nreap 9 -> r cancelled k yes ; k all r yes / ; w cancelled k no ; x time"),
            ("k", f"{lot}\nreap 9 -> r cancelled k yes ; k all r yes x yes / w ; w done ; x cancelled k yes"),
            ("k", f"{lot} | v work good\nreap 9 -> r cancelled k yes ; k all r yes / v w ; w done ; x time ; v done"),
            ("k", f"{lot}\nreap 9 -> r cancelled k no ; w cancelled k no ; k all r no w no / w ; x time"))

    def test_all_and_linktimeouts(self):
        lot = "put r read p 1 link | t linktimeout 5\nput w work good link | u linktimeout 5\nput k cancelall"
        self.fits(f"{lot}\nreap 9 -> r cancelled k yes ; t off ; u cancelled k yes ; k all r yes u yes / w ; w done")
        self.fails("by",
            ("k", f"{lot}\nreap 9 -> r cancelled k yes ; t cancelled k yes ; u cancelled k yes ; k all r yes t yes u yes / w ; w done"),
            ("k", f"{lot}\nreap 9 -> r cancelled k yes ; t off ; u cancelled k no ; w cancelled k no ; k all r yes u no w no /"),
            ("k", f"{lot}\nreap 9 -> r cancelled k yes ; t off ; u off ; w done ; k all r yes / u w"))

    def test_late(self):
        lot = "put w work good | r read p 1 | c cancel w | d cancel r"
        self.fits(
            f"{lot}\nreap 9 -> c late ; w done ; r cancelled d yes ; d took yes",
            "put w work good link | t linktimeout 3\nclock 3\nreap 9 -> t late ; w done",
            "put w work good silent | c cancel w\nreap 9 -> c late")
        self.fails("by",
            ("d", f"{lot}\nstop\nreap 9 -> c late ; w done ; r stopped yes ; d late"),
            ("c", f"{lot}\nstop\nreap 9 -> w stopped no ; c late ; r stopped no ; d stopped no"),
            ("t", "put r read p 1 link | t linktimeout 3\nclock 3\nstop\nreap 9 -> t late ; r stopped yes"))

    def test_time_of_a_linktimeout(self):
        lot = "put r read p 1 link | t linktimeout 3\nclock 3"
        self.fits(
            f"{lot}\nreap 9 -> r cancelled t yes ; t time",
            f"{lot}\ngive p a -> 0\nreap 9 -> r text p 0 a ; t off")
        self.fails("by",
            ("t", f"{lot}\ngive p a -> 0\nreap 9 -> r text p 0 a ; t time"),
            ("t", f"{lot}\nstop\nreap 9 -> r stopped yes ; t time"),
            ("r", f"{lot}\nreap 9 -> r cancelled t yes ; t off"),
            ("t", "put w work good link | t linktimeout 3\nclock 3\nreap 9 -> w done ; t time"),
            ("t", "put a nop link | t linktimeout 0\nreap 9 -> a done ; t time"))
        self.fails("by", ("x", f"{lot}\nput x timeout 9\nreap 9 -> r cancelled t yes ; t time ; x cancelled t yes"))

    def test_nobody_is_ended_by_one_that_waited_for_its_end(self):
        self.fails("by",
            ("r", "put r read p 1\nput c cancel r drain\nreap 9 -> r cancelled c yes ; c took yes"),
            ("r", "put r read p 1 drain\nput c cancel r\nreap 9 -> r cancelled c yes ; c took yes"),
            ("r", "put r read p 1 hard | c cancel r\nreap 9 -> r cancelled c yes ; c took yes"),
            ("r", "put r read p 1\nput k cancelall drain\nreap 9 -> r cancelled k yes ; k all r yes /"),
            ("r", "put r read p 1 drain\nput k cancelall\nreap 9 -> r cancelled k yes ; k all r yes /"),
            ("r", "put r read p 1 hard | k cancelall\nreap 9 -> r cancelled k yes ; k all r yes /"),
            ("t", "put w work good link | t linktimeout 9\nput k cancelall drain\nreap 9 -> w done ; t cancelled k yes ; k all t yes / w"))

    def test_whom_it_would_end_only_where_this_one_is_told_so(self):
        # Who is told otherwise fits; it is the one who tells of it that does not, whether it could end him or not.
        self.fails("by",
            ("s", "put r read p 1\nput s cancel r drain\ngive p a -> 0\nreap 9 -> r text p 0 a ; s took yes"),
            ("c", "put r read p 1\nput c cancel r drain\ngive p a -> 0\nreap 9 -> r text p 0 a ; c took yes"),
            ("c", "put r read p 1 hard | c cancel r\ngive p a -> 0\nreap 9 -> r text p 0 a ; c took yes"),
            ("s", "put r read p 1 drain\nput s cancelall\ngive p a -> 0\nreap 9 -> r text p 0 a ; s all r no /"),
            ("s", "put r read p 1\nput s cancelall drain\ngive p a -> 0\nreap 9 -> r text p 0 a ; s all r no /"),
            ("s", "put r read p 1 hard | s cancelall\ngive p a -> 0\nreap 9 -> r text p 0 a ; s all r no /"))

    def test_whom_it_would_end_beside_another_result_of_its_own(self):
        self.fails("by",
            ("k", "put k nop\nput l cancel k drain\nreap 9 -> k cancelled l no ; l took yes"),
            ("k", "put k nop | m nop\nput l cancelall drain\nreap 9 -> k cancelled l no ; l all m no / ; m done"))

    def test_stopped(self):
        self.fits(
            "put r read p 1\nstop\nreap 9 -> r stopped yes",
            "put r read p 1\nquiet -> r yes -\nclock 1\nstop\nreap 9 -> r stopped yes")
        self.fails("by",
            ("r", "put r read p 1\nreap 9 -> r stopped yes"),
            ("r", "put r read p 1\ngive q stop -> 0\nreap 9 -> r stopped yes"),
            ("a", "put r read p 1 | a timeout 3\nreap 9 -> r stopped yes ; a stopped yes"))
        self.fits("put r read p 1\nreap 9 -> r stopped yes\nstop")

    def test_off(self):
        lot = "put r read p 1 link | t linktimeout 3"
        self.fits(
            f"{lot}\ngive p a -> 0\nreap 9 -> r text p 0 a ; t off",
            "put a nop link silent | t linktimeout 0\nreap 9 -> t off",
            "put a work bad link | b nop link | t linktimeout 0 | d nop\nreap 9 -> a bad ; b broken a ; t off ; d broken a")
        self.fails("by", ("t", f"{lot}\nquiet -> r yes -\nreap 9 -> t off"))


class ChainRowsTest(SumsTest):
    def test_behind_one_that_stays(self):
        self.fits(
            "put a read p 1 link | b nop\nquiet -> a yes - ; b no -",
            "put a read p 1 link | b nop\nput c cancel b\nquiet -> a yes -\nreap 9 -> b cancelled c no ; c took no")
        self.fails("chain",
            ("b", "put a read p 1 link | b nop\nquiet -> a yes -\nreap 9 -> b done"),
            ("b", "put a read p 1 link | b nop silent\nquiet -> a yes -"),
            ("b", "put a read p 1 hard | b read q 1\nquiet -> a yes - ; b yes -"),
            ("c", "put a read p 1 hard | b nop link | c nop\nput d cancel b\nquiet -> a yes -\nreap 9 -> b cancelled d no ; d took no ; c done"))

    def test_behind_an_end_that_breaks(self):
        bad = "put a work bad link | b nop | x nop"
        self.fits(
            f"{bad}\nreap 9 -> a bad ; b broken a ; x done",
            f"{bad}\nput c cancel b\nreap 9 -> b cancelled c no ; c took no ; a bad ; x done",
            f"{bad}\nstop\nreap 9 -> b stopped no ; a bad ; x done",
            "put a work bad hard | b nop\nreap 9 -> a bad ; b done")
        self.fails("chain",
            ("b", f"{bad}\nreap 9 -> a bad ; b done ; x done"),
            ("b", "put a read p 2 link | b nop\ngive p a -> 0\nreap 9 -> a text p 0 a ; b done"),
            ("b", "put a work bad link | b read q 1\ngive q a -> 0\nreap 9 -> a bad ; b text q 0 a"),
            ("b", "put a work bad link | b nop silent\nreap 9 -> a bad"),
            ("b", "put a work bad link | b read p 1\nput c cancel b\nreap 9 -> a bad ; b cancelled c yes ; c took yes"),
            ("b", "put a read p 1 link | b nop\nstop\nreap 9 -> a stopped yes ; b done"),
            ("b", "put a read #1 1 link | b nop\nreap 9 -> a bare @0 ; b done"),
            ("c", "put a work bad link | b nop link | c nop\nreap 9 -> a bad ; b broken a ; c done"),
            ("b", "put x read p 1\nput a nop hard | b nop\nput c cancel a\nquiet -> x yes -\nreap 9 -> a cancelled c no ; c took no ; b done"))
        self.assertEqual(self.told(PQ, "put a work bad link | b read p 1\nquiet -> b no -\nreap 9 -> a bad"), ("chain", "b"))

    def test_broken_by_one_that_could(self):
        self.fails("chain",
            ("b", "put b nop\nreap 9 -> b broken b"),
            ("b", "put a nop | b nop\nreap 9 -> a done ; b broken a"),
            ("b", "put a nop link | b nop\nreap 9 -> a done ; b broken a"),
            ("b", "put a nop link silent | b nop\nreap 9 -> b broken a"),
            ("b", "put a work bad hard | b nop\nreap 9 -> a bad ; b broken a"),
            ("b", "put a work bad link | b nop\nreap 9 -> a bad ; b broken b"),
            ("b", "put a work bad link | b nop\nreap 9 -> a bad ; b broken z"),
            ("a", "put a nop link | b nop\nput c cancel b\nreap 9 -> a broken b ; b cancelled c no ; c took no"),
            ("b", "put a read p 1 link | b nop\nquiet -> a yes -\nreap 9 -> b broken a"))

    def test_not_by_one_that_was_broken_or_stopped_or_ended_by_a_cancelall(self):
        lot = "put a timeout 3 link | b nop link | d nop"
        self.fits(
            f"{lot}\nstop\nreap 9 -> a stopped yes ; b stopped no ; d stopped no",
            f"{lot}\nput k cancelall\nreap 9 -> a cancelled k no ; b cancelled k no ; d cancelled k no ; k all a no b no d no /",
            f"{lot}\nput c cancel a\nreap 9 -> a cancelled c yes ; b broken a ; d broken a ; c took yes")
        self.fails("chain",
            ("d", f"{lot}\nput c cancel a\nreap 9 -> a cancelled c yes ; b broken a ; d broken b ; c took yes"),
            ("b", f"{lot}\nstop\nreap 9 -> a stopped yes ; b broken a ; d broken a"),
            ("d", f"{lot}\nstop\nreap 9 -> a stopped yes ; b stopped no ; d broken b"),
            ("b", f"{lot}\nput k cancelall\nreap 9 -> a cancelled k no ; k all a no / ; b broken a ; d broken a"))

    def test_all_between_are_broken_by_the_same(self):
        lot = "put a timeout 3 link | b nop link | d nop"
        self.fits(f"{lot}\nput c cancel b\nclock 3\nreap 9 -> b cancelled c no ; d broken b ; c took no ; a time")
        self.fails("chain",
            ("d", f"{lot}\nput c cancel b | e cancel a\nreap 9 -> b cancelled c no ; c took no ; a cancelled e yes ; d broken a ; e took yes"))
        self.fits(
            f"{lot}\nput c cancel b | e cancel a\nreap 9 -> b cancelled c no ; c took no ; a cancelled e yes ; d broken b ; e took yes",
            f"{lot}\nput c cancel d | e cancel b\nclock 3\nreap 9 -> d cancelled c no ; c took no ; b cancelled e no ; e took no ; a time")

    def test_ahead(self):
        stays = "quiet -> a yes -"
        self.fits(
            f"put a read p 1 | b nop\n{stays}\nreap 9 -> b done",
            f"put a read p 1\nput c cancelall\nput d cancel c\n{stays}\nreap 9 -> c cancelled d no ; d took no",
            "put a read p 1 | b nop drain\nquiet -> a yes - ; b no -",
            "put b nop drain\nput a read p 1\nquiet -> a yes -\nreap 9 -> b done",
            f"put k cancelall | a read p 1\n{stays}\nreap 9 -> k all /")
        self.fails("ahead",
            ("a", f"put a read p 1 | b nop drain\n{stays}\nreap 9 -> b done"),
            ("a", f"put a read p 1 | b nop drain silent\n{stays}"),
            ("a", f"put a read p 1 | k cancelall\n{stays}\nreap 9 -> k all /"),
            ("a", f"put a read p 1 | c cancel a\n{stays}\nreap 9 -> c gone"),
            ("a", f"put b read p 1 | a read q 1 | c cancel a\nquiet -> a yes - ; b yes -\nreap 9 -> c gone"))
        self.fails("ahead",
            ("a", "put a read p 1 drain | b nop\nquiet -> a yes -\nreap 9 -> b done"),
            ("a", "put a read p 1 drain | b nop silent\nquiet -> a yes -"),
            ("a", "put a read p 1 drain\nput b read q 1\nquiet -> a yes - ; b yes -"))
        self.fits(
            "put a read p 1 drain link | t linktimeout 5 | m nop\nput b nop\nquiet -> a yes - ; b no - ; m no - ; t yes -",
            "put b nop | a read p 1 drain\nquiet -> a yes -\nreap 9 -> b done",
            "put a read p 1 drain\nput b nop\nput c nop\nstop\nreap 9 -> a stopped yes ; b stopped no ; c stopped no")

    def test_ahead_of_a_stop(self):
        # The row "stop" tells of such quiets first.
        setup = setup_in(PQ)
        facts = Facts(setup, history_in(setup, text_of("put a read p 1\nstop\nquiet -> a yes -")))
        self.assertEqual(chain_rows.bad_ahead(facts), ["a"])


class PipeRowsTest(SumsTest):
    def test_letters_given(self):
        self.fits(
            "give p ab -> 0\ngive p c -> 2\ngive q z -> 0",
            "put w write p ab\ngive p c -> 0\nreap 9 -> w wrote p 1",
            "put w write p ab\ngive p c -> 2\nreap 9 -> w wrote p 0")
        self.fails("letters",
            ("p", "give p ab -> 1"),
            ("p", "give p ab -> 0\ngive p c -> 1"),
            ("p", "give p ab -> 0\ngive p c -> 3"),
            ("q", "give p ab -> 0\ngive q c -> 2"),
            ("p", "put w write p ab\ngive p c -> 0\nreap 9 -> w wrote p 0"),
            ("p", "give p a -> 0\ngive p a -> 0"),
            ("p", "give q a -> 1\ngive p a -> 1"))

    def test_letters_taken(self):
        self.fits(
            "give p abc -> 0\ntake p 2 -> 0 ab\ntake p 2 -> 2 c\ntake p 2 -> 3 -",
            "take p 1 -> 0 -",
            "give p abc -> 0\nput r read p 2 | s reads p 1\nquiet -> s yes -\nreap 9 -> s text p 0 a + ; r text p 1 bc")
        self.fails("letters",
            ("p", "give p abc -> 0\ntake p 2 -> 1 bc"),
            ("p", "give p abc -> 0\ntake p 2 -> 0 ac"),
            ("p", "give p abc -> 0\ntake p 2 -> 0 ab\ntake p 2 -> 1 bc"),
            ("p", "give p abc -> 0\ntake p 2 -> 0 abc"),
            ("p", "give p a -> 0\ntake p 2 -> 0 ab"),
            ("p", "take p 2 -> 0 a"),
            ("p", "give p abc -> 0\ntake p 1 -> 0 a\ntake p 1 -> 2 c"),
            ("p", "give p abc -> 0\nput r read p 2\nreap 9 -> r text p 0 abc"),
            ("p", "give p ab -> 0\nput r read p 1\ntake p 1 -> 0 a\nreap 9 -> r text p 0 a"),
            ("q", "give p a -> 0\ntake q 1 -> 0 a"),
            ("p", "give q a -> 0\nput r read p 1\nreap 9 -> r text p 0 a"))

    def test_the_place_of_a_take_of_nothing(self):
        self.fits(
            "give p a -> 0\ntake p 1 -> 0 a\ntake p 1 -> 1 -\ngive p b -> 1\ntake p 1 -> 1 b",
            "take p 1 -> 0 -\ngive p a -> 0")
        self.fails("letters",
            ("p", "take p 1 -> 1 -"),
            ("p", "give p a -> 0\ntake p 1 -> 1 -"),
            ("p", "give p ab -> 0\ntake p 1 -> 0 a\ntake p 1 -> 2 -"),
            ("p", "give p a -> 0\ntake p 1 -> 0 a\ntake p 1 -> 2 -"))

    def test_the_place_of_an_end(self):
        self.fits("give p a -> 0\ntake p 1 -> 0 a\nput h shut p | r read p 1\nreap 9 -> h done ; r end p 1 h")
        self.fails("letters",
            ("p", "give p a -> 0\ntake p 1 -> 0 a\nput h shut p | r read p 1\nreap 9 -> h done ; r end p 0 h"),
            ("p", "put h shut p | r read p 1\nreap 9 -> h done ; r end p 1 h"),
            ("p", "give p ab -> 0\ntake p 1 -> 0 a\nput h shut p | r read p 1\nreap 9 -> h done ; r end p 2 h"),
            ("p", "give p ab -> 0\ntake p 1 -> 0 a\nput h shut p | r read p 1\nreap 9 -> h done ; r end p 1 h"))

    def test_the_place_of_no_buffer(self):
        self.fits(
            "give p ab -> 0\ntake p 1 -> 0 a\nput r read p 1 pick\nreap 9 -> r no-buffer p 1 0",
            "give p a -> 0\nput r read p 1 pick\ntake p 1 -> 0 a\nreap 9 -> r no-buffer p 0 0")
        self.fails("letters",
            ("p", "put r read p 1 pick\nreap 9 -> r no-buffer p 0 0"),
            ("p", "give p a -> 0\ntake p 1 -> 0 a\nput r read p 1 pick\nreap 9 -> r no-buffer p 1 0"),
            ("p", "give p ab -> 0\nput r read p 1 pick\nreap 9 -> r no-buffer p 1 0"),
            ("q", "give p a -> 0\nput r read q 1 pick\nreap 9 -> r no-buffer q 0 0"))

    def test_the_room(self):
        setup = "ring 9 2 pipes p slots"
        self.fits(
            "put w write p ab\nreap 9 -> w wrote p 0",
            "give p abc -> 0\nput w write p d\ntake p 2 -> 0 ab\nreap 9 -> w wrote p 3",
            setup=setup)
        self.fails("letters",
            ("p", "give p a -> 0\nput w write p bc\nreap 9 -> w wrote p 1"),
            ("p", "give p abc -> 0\ntake p 1 -> 0 a\nput w write p d\nreap 9 -> w wrote p 3"),
            ("p", "put w write p abc\nreap 9 -> w wrote p 0"),
            setup=setup)
        self.fits("put w write p abc\ntake p 1 -> 0 a\nreap 9 -> w wrote p 0", setup=setup)

    def test_freed(self):
        up = "put u update 0 q | v update 0 - | x update 0 p"
        turns = "reap 9 -> u turn 1 ; v turn 2 ; x turn 3"
        self.fits(
            f"{up}\n{turns} ; #0 freed 0 ; #0 freed 1",
            f"{up} | r read #0 1\nquiet -> r yes 1\n{turns} ; #0 freed 0",
            f"{up} | r read #0 1\nquiet -> r yes 3\n{turns} ; #0 freed 1 ; #0 freed 0",
            "put u update 1 p\nreap 9 -> u turn 1")
        self.fails("freed",
            (0, f"{up}\n{turns} ; #0 freed 0"),
            (0, f"{up}\n{turns}"),
            (0, f"{up}\n{turns} ; #0 freed 0 ; #0 freed 1 ; #0 freed 2"),
            (0, f"{up}\n{turns} ; #0 freed 0 ; #0 freed 1 ; #0 freed 3"),
            (0, f"{up}\n{turns} ; #0 freed 0 ; #0 freed 1 ; #0 freed 9"),
            (0, f"{up} | r read #0 1\nquiet -> r yes 1\n{turns} ; #0 freed 0 ; #0 freed 1"),
            (1, "reap 9 -> #1 freed 0"),
            (0, "reap 9 -> #1 freed 0 ; #0 freed 0"),
            (1, "put u update 1 p\nreap 9 -> u turn 1 ; #1 freed 0"))

    def test_freed_where_a_completion_or_an_earlier_table_tells_the_turn(self):
        lines = "put m reads #0 2 | u update 0 q\ngive p a -> 0"
        told = "reap 9 -> m text p 0 a @0 + ; u turn 1"
        self.fits(f"{lines}\nquiet -> m yes 0\n{told}")
        # m stays, so its turn must not be freed, though the last table does not tell that it looked at one.
        self.fails("quiet", (2, f"{lines}\nquiet -> m no -\n{told}"))
        self.assertEqual(self.told(PQ, f"{lines}\nquiet -> m no -\n{told} ; #0 freed 0"), ("freed", 0))
        self.assertEqual(self.told(PQ, f"{lines}\nquiet -> m yes 0\n{told} ; #0 freed 0"), ("freed", 0))
        # One that ended holds no turn, and one that has not begun none either.
        self.fits(
            "put r read #0 1 | u update 0 q\ngive p a -> 0\nquiet -> -\nreap 9 -> r text p 0 a @0 ; u turn 1 ; #0 freed 0",
            "put x read p 1 link | y read #0 1\nput u update 0 q\nquiet -> x yes - ; y no -\nreap 9 -> u turn 1 ; #0 freed 0")

    def test_freed_of_one_slot_whatever_is_held_of_another(self):
        lines = "put u update 0 - | r read #1 1\nquiet -> r yes 0\nreap 9 -> u turn 1"
        self.fits(f"{lines} ; #0 freed 0", setup="ring 9 4 pipes p slots p p")
        self.fails("freed", (0, lines), setup="ring 9 4 pipes p slots p p")

    def test_buffer(self):
        lot = "give p abc -> 0\nput a read p 1 pick | b read p 1 pick | d read p 1 pick"
        self.fits(
            f"{lot}\nlend 3\nreap 9 -> a picked p 0 a 0 ; b picked p 1 b 1 ; d picked p 2 c 2",
            f"{lot}\nlend 2\nreap 9 -> a picked p 0 a 0 ; b picked p 1 b 1 ; d no-buffer p 2 2",
            f"{lot}\nreap 9 -> a no-buffer p 0 0 ; b no-buffer p 0 0 ; d no-buffer p 0 0",
            f"{lot}\nlend 1\nlend 1\nreap 9 -> a picked p 0 a 0 ; b no-buffer p 1 1 ; d picked p 1 b 1")
        self.fails("buffer",
            (0, f"{lot}\nlend 3\nreap 9 -> a picked p 0 a 0 ; b picked p 1 b 0 ; d picked p 2 c 1"),
            (1, f"{lot}\nlend 4\nreap 9 -> a picked p 0 a 0 ; b picked p 1 b 2 ; d picked p 2 c 3"),
            (0, f"{lot}\nlend 4\nreap 9 -> a picked p 0 a 1 ; b picked p 1 b 2 ; d picked p 2 c 3"),
            (2, f"{lot}\nlend 2\nreap 9 -> a picked p 0 a 0 ; b picked p 1 b 1 ; d picked p 2 c 2"),
            (0, f"{lot}\nreap 9 -> a picked p 0 a 0 ; b picked p 1 b 1 ; d picked p 2 c 2"),
            (1, f"{lot}\nlend 2\nreap 9 -> a picked p 0 a 0 ; b no-buffer p 1 1 ; d no-buffer p 1 1"),
            (2, f"{lot}\nlend 2\nreap 9 -> a picked p 0 a 0 ; b no-buffer p 1 2 ; d no-buffer p 1 2"),
            (3, f"{lot}\nlend 2\nreap 9 -> a picked p 0 a 0 ; b picked p 1 b 1 ; d no-buffer p 2 3"),
            (1, f"{lot}\nlend 1\nreap 9 -> a no-buffer p 0 1 ; b no-buffer p 0 1 ; d no-buffer p 0 1"))


class QuietRowTest(SumsTest):
    def test_who_may_be_in_a_table(self):
        self.fits("put a timeout 3\nquiet -> a yes -\nquiet -> a yes -\nclock 3\nreap 9 -> a time\nquiet -> -")
        self.fails("quiet",
            (2, "put a timeout 3\nquiet -> -\nquiet -> a yes -"),
            (3, "put a timeout 3\nquiet -> a yes -\nquiet -> -\nquiet -> a yes -\nquiet -> a yes -"),
            (2, "put a timeout 3 | b timeout 4\nquiet -> b yes -\nquiet -> a yes - ; b yes -"))

    def test_an_end_told_ahead(self):
        setup = setup_in(PQ)
        lines = "put a read p 1\nstop\nreap 9 -> a stopped yes\nquiet -> a yes -\nquiet -> -"
        facts = Facts(setup, history_in(setup, text_of(lines)))
        self.assertEqual(quiet_rows.bad_quiets(facts), [3])
        self.fails("quiet",
            (3, "put a timeout 9\nput c cancel a\nreap 9 -> a cancelled c yes ; c took yes\nquiet -> a yes -\nquiet -> -"))
        self.fits("put a timeout 9\nput c cancel a\nstop\nreap 9 -> c took yes ; a cancelled c yes\nquiet -> -")

    def test_nothing_could_begin(self):
        self.fails("quiet",
            (1, "put a read p 1\nquiet -> a no -\nstop\nreap 9 -> a stopped yes"),
            (1, "put a read p 1\nquiet -> a no -"),
            (1, "put x nop | a read p 1 drain\nquiet -> a no -\nreap 9 -> x done"),
            (1, "put x nop drain | a read p 1\nquiet -> a no -\nreap 9 -> x done"),
            (1, "put x nop link | a read p 1\nquiet -> a no -\nreap 9 -> x done"))
        self.fits(
            "put x read p 1 | a read p 1 drain\nquiet -> a no - ; x yes -",
            "put x read p 1 drain | a read p 1\nquiet -> a no - ; x yes -",
            "put x read p 1 link | a read p 1\nquiet -> a no - ; x yes -",
            "put x read p 1 drain link | t linktimeout 9 | a read p 1\nquiet -> a no - ; t yes - ; x yes -")
        self.fails("quiet",
            (2, "put x read p 1 | a read p 1 drain\ngive p a -> 0\nquiet -> a no -\nreap 9 -> x text p 0 a"))

    def test_nothing_could_end(self):
        self.fails("quiet",
            (1, "put a work good\nquiet -> a yes -"),
            (2, "put a timeout 3\nclock 3\nquiet -> a yes -"),
            (1, "put a timeout 0\nquiet -> a yes -"),
            (2, "put a read q 1 link | t linktimeout 3\nclock 4\nquiet -> a yes - ; t yes -"),
            (2, "put a read p 1\ngive p a -> 0\nquiet -> a yes -"),
            (2, "put a reads p 1\ngive p a -> 0\nquiet -> a yes -"),
            (2, "put a reads p 1 pick\ngive p a -> 0\nquiet -> a yes -"),
            (1, "put h shut p | a read p 1\nquiet -> a yes -\nreap 9 -> h done"),
            (1, "put h shut #0 | a read #0 1\nquiet -> a yes 0\nreap 9 -> h done @0"),
            (1, "put h shut p | a write p abcdef\nquiet -> a yes -\nreap 9 -> h done"),
            (1, "put a write p abcd\nquiet -> a yes -"),
            (3, "put a write p abc\ngive p ab -> 0\ntake p 1 -> 0 a\nquiet -> a yes -"),
            (2, "put a read #0 1\ngive p a -> 0\nquiet -> a yes 0"))
        self.fits(
            "put a timeout 3\nclock 2\nquiet -> a yes -",
            "put a read p 1\ngive q a -> 0\nquiet -> a yes -",
            "put a read p 1\ngive p a -> 0\ntake p 1 -> 0 a\nquiet -> a yes -",
            "put a write p abcde\nquiet -> a yes -",
            "put a write p abc\ngive p ab -> 0\nquiet -> a yes -\ntake p 2 -> 0 ab\nreap 9 -> a wrote p 2",
            "put h shut q | a read p 1\nquiet -> a yes -\nreap 9 -> h done",
            "put a timeout 3\nquiet -> a yes -\nclock 3\nreap 9 -> a time",
            "put a read p 1\nquiet -> a yes -\ngive p a -> 0\nreap 9 -> a text p 0 a",
            "put a read p 1\nquiet -> a yes -\nput h shut p\nreap 9 -> h done ; a end p 0 h")

    def test_the_letters_that_are_there(self):
        self.fits(
            "put a write p abcd | b read p 4\ngive p wxyz -> 0\nquiet -> -\nreap 9 -> b text p 0 wxyz ; a wrote p 4",
            "put a read p 1 | w write p a | b read p 2\nquiet -> a yes -\nreap 9 -> w wrote p 0 ; b text p 0 a",
            "put s reads p 2 | a read p 2\ngive p ab -> 0\nquiet -> a yes - ; s yes -\nreap 9 -> s text p 0 ab +",
            "put s reads p 2\ngive p ab -> 0\nquiet -> s yes -\ngive p cd -> 2\nquiet -> s yes -\nreap 9 -> s text p 0 ab + ; s text p 2 cd +",
            "put a write p abcd\ngive p xy -> 0\nquiet -> a yes -\ntake p 2 -> 0 xy\nreap 9 -> a wrote p 2")
        self.fails("quiet",
            (2, "put s reads p 2\ngive p a -> 0\nquiet -> s yes -\ngive p b -> 1\nquiet -> s yes -\nreap 9 -> s text p 0 ab +"),
            (1, "put a read p 1 | w write p a\nquiet -> a yes -\ntake p 1 -> 0 a\nquiet -> a yes -\nreap 9 -> w wrote p 0"),
            (2, "put s reads p 1\ngive p a -> 0\nquiet -> s yes -\ntake p 1 -> 0 a\nquiet -> s yes -"),
            (1, "put w write p a\nquiet -> w yes -\nquiet -> -\nreap 9 -> w wrote p 0"),
            (2, "put r read p 1\ngive p a -> 0\nquiet -> r yes -\nquiet -> -\nreap 9 -> r text p 0 a"))

    def test_fires_of_one_who_had_not_begun_count_not(self):
        lot = "put r read q 1 link | t linktimeout 3\nput s reads p 1 drain\ngive p a -> 0"
        end = "clock 3\nquiet -> s yes -\nreap 9 -> r cancelled t yes ; t time ; s text p 0 a +"
        self.fits(f"{lot}\nquiet -> r yes - ; s no - ; t yes -\n{end}")
        self.fails("quiet", (3, f"{lot.replace('read q', 'read p')}\nquiet -> r yes - ; s no - ; t yes -\n{end}"))


class NamesTest(SumsTest):
    def test_tags_pipes_and_texts_that_are_words_of_the_document(self):
        setup = "ring 9 9 pipes freed quiet slots freed"
        self.fits(
            "give quiet quiet -> 0\nput stop read freed 1\ngive quiet stop -> 5\nput put nop\nquiet -> stop yes -\nreap 9 -> put done",
            "put off work bad link | done nop\ntake quiet 5 -> 0 -\nreap 9 -> off bad ; done broken off",
            "put end shut freed | text read freed 1\nreap 9 -> end done ; text end freed 0 end",
            setup=setup)
        lines = "put off timeout 3 link | a read freed 1\nquiet -> a yes - ; off yes -\nput all cancel off\nquiet -> -"
        told = "reap 9 -> off cancelled all yes ; a broken off ; all took yes"
        self.assertEqual(self.told(setup, f"{lines}\n{told}"), ("begin", "a"))


class OrderTest(SumsTest):
    def test_the_first_row_that_does_not_hold(self):
        lines = ["put a nop | b nop | d read p 1\nreap 1 -> a done ! ; b done", "put x nop -> stopped", "put e nop", "put f nop | g cancel f\nreap 9 -> f cancelled g yes ; g took yes",
                 "put u update 1 p\nreap 9 -> u turn 3", "give p a -> shut z", "put i nop link | j nop\nreap 9 -> i done ; j broken i", "give p a -> 1", "put k read q 1 | l cancelall\nquiet -> k yes -\nreap 9 -> l all /",
                 ]
        self.assertEqual(self.told(PQ, lines[0] + "\n" + lines[1]), ("reap", 1))
        self.assertEqual(self.told(PQ, lines[0].replace("reap 1", "reap 9") + "\n" + lines[1]), ("kept", 0))
        words = ("stop", "end", "begin", "slot", "by", "chain", "letters")
        for at, word in enumerate(words):
            self.assertEqual(self.told(PQ, "\n".join(lines[at + 1:8]))[0], word)
        self.assertEqual(self.told(PQ, "give p a -> 1\n" + lines[8]), ("letters", "p"))
        self.assertEqual(self.told(PQ, lines[8]), ("ahead", "k"))
        self.assertEqual(self.told(PQ, "put k read q 1 | l cancelall\nquiet -> k yes -\nreap 9 -> l all / ; #0 freed 0"), ("ahead", "k"))
        self.assertEqual(self.told(PQ, "give q a -> 0\nput m read q 1 pick\nreap 9 -> m picked q 0 a 0 ; #0 freed 0"), ("freed", 0))
        self.assertEqual(self.told(PQ, "give q a -> 0\nput m read q 1 pick | n timeout 3\nreap 9 -> m picked q 0 a 0 ; n time"), ("buffer", 0))
        self.assertEqual(self.told(PQ, "put o timeout 0 | n timeout 3\nquiet -> o yes -\nreap 9 -> n time"), ("time", "n"))

    def test_the_least_of_several(self):
        self.assertEqual(self.told(PQ, "put z nop | y nop | x nop"), ("end", "x"))
        self.assertEqual(self.told(PQ, "give q a -> 1\ngive p a -> 1"), ("letters", "p"))
        self.assertEqual(self.told(PQ, "put c timeout 3 | b timeout 3\nreap 9 -> c time ; b time"), ("time", "b"))
        self.assertEqual(self.told(PQ, "give p a -> shut z\ngive q a -> shut y"), ("by", "y"))


if __name__ == "__main__":
    unittest.main()
