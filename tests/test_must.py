import unittest
from copy import deepcopy

from endonce.errors import NoSums, NotClosed
from endonce.must import must
from endonce.nodes import nodes
from endonce.texts import history_in, setup_in
from searches import closed_in, named_posts
from some_runs import ChainMaker, Maker
from things import as_lists

PQ = "ring 9 4 pipes p q slots p -"
ONE = "ring 1 4 pipes p slots"
KINDS = (
    "user", "put", "begun", "chain", "breaks", "drain", "off", "turn", "letter", "taken", "short", "shut", "lent", "time", "cancel",
    "stop", "free", "post", "reap", "space", "busy", "quiet")


def step(text):
    """The step with this text: its word and what stands behind it."""
    word, *rest = text.split()
    return (word, *(int(part) if part.isdigit() else part for part in rest))


def pairs(texts):
    """The pairs of steps of texts such as "begin a, end a"."""
    return [tuple(step(part) for part in text.split(", ")) for text in texts]


class KindsTest(unittest.TestCase):
    def check(self, kind, wanted, *lines, setup=PQ):
        """Just these triples of the kind are told, the nodes named by the least of their steps."""
        made, history = closed_in(setup, *lines)
        told = must(made, history)
        self.assertIsInstance(told, list)
        self.assertEqual(told, sorted(set(told)))
        self.assertTrue(all(row.__class__ is tuple and len(row) == 3 and row[1] in KINDS for row in told))
        names = [node[0] for node in nodes(made, history)]
        self.assertTrue(all(row[0] in names and row[2] in names and row[0] != row[2] for row in told))
        with self.subTest(kind=kind, lines=lines):
            self.assertEqual([(row[0], row[2]) for row in told if row[1] == kind], sorted(pairs(wanted)))

    def test_user(self):
        self.check("user", ["user 0, user 1", "user 1, user 2"], "lend 1", "quiet -> -")
        # The stop is named by what it ends.
        self.check("user", ["user 0, end a", "end a, user 2", "user 2, user 3", "user 3, user 4"],
                   "put a nop", "stop", "quiet -> -", "reap 9 -> a stopped no")

    def test_put(self):
        self.check("put", ["user 0, begin a", "user 0, begin b"], "put a nop | b work good", "quiet -> -", "reap 9 -> a done ; b done")
        # b never began; it is broken where w ends.
        self.check("put", ["user 0, begin w", "user 0, end b"], "put w work bad link | b nop", "quiet -> -", "reap 9 -> w bad ; b broken w")
        self.check("put", ["user 0, begin r"], "put r read p 1 link | b nop", "quiet -> b no - ; r yes -")

    def test_put_of_a_cancel(self):
        told = ("quiet -> -", "reap 9 -> r cancelled c yes ; c took yes")
        self.check("put", ["user 0, begin r", "user 0, user 1", "user 1, begin c"], "put r read p 1", "put c cancel r", *told)
        self.check("put", ["user 0, begin r", "user 0, begin c"], "put r read p 1 | c cancel r", *told)

    def test_put_of_a_cancel_and_puts_told_a_word(self):
        self.check("put", ["user 0, begin a", "user 0, begin b", "user 1, user 3", "user 3, begin c"], "put a nop | b nop", "put z nop -> busy",
                   "reap 1 -> a done", "put c cancel z", "quiet -> -", "reap 1 -> b done !", "reap 1 -> c none !", setup=ONE)
        self.check("put", ["user 0, begin a", "user 0, begin b"], "put a nop | b nop", "put z cancel a -> busy", "quiet -> -",
                   "reap 1 -> a done", "reap 1 -> b done !", setup=ONE)

    def test_begun(self):
        self.check("begun", ["begin s, fire s 0", "fire s 0, fire s 1", "fire s 1, end s"], "put s reads p 1", "give p ab -> 0", "stop",
                   "quiet -> -", "reap 9 -> s text p 0 a + ; s text p 1 b + ; s stopped yes")
        self.check("begun", ["begin r, end r"], "put r read p 1", "give p a -> 0", "quiet -> -", "reap 9 -> r text p 0 a")
        self.check("begun", ["begin s, fire s 0"], "put s reads p 1", "give p a -> 0", "quiet -> s yes -", "reap 9 -> s text p 0 a +")
        self.check("begun", [], "put a nop | r read p 1", "quiet -> r yes -", "reap 9 -> a done")
        self.check("begun", ["begin a, end a"], "put a work good silent", "quiet -> -")
        self.check("begun", ["begin w, end b"], "put w work bad link | b nop", "quiet -> -", "reap 9 -> w bad ; b broken w")
        self.check("begun", ["begin t, end t", "begin t, end w"], "put w work good link | t linktimeout 0", "quiet -> -", "reap 9 -> t late ; w done")

    def test_chain(self):
        self.check("chain", ["end a, begin b"], "put a read p 1 link | b nop", "give p a -> 0", "quiet -> -", "reap 9 -> a text p 0 a ; b done")
        self.check("chain", ["begin a, begin b", "begin b, begin c"], "put a nop link | b nop hard | c nop", "quiet -> -", "reap 9 -> a done ; b done ; c done")
        self.check("chain", ["end t, begin c"], "put w work bad hard | t linktimeout 9 | c nop", "quiet -> -", "reap 9 -> w bad ; t off ; c done")
        self.check("chain", [], "put a nop | b nop", "quiet -> -", "reap 9 -> a done ; b done")
        self.check("chain", [], "put w work bad link | b nop", "quiet -> -", "reap 9 -> w bad ; b broken w")

    def test_breaks(self):
        cancel = "put c cancel b"
        told = "reap 9 -> b cancelled c no ; c took no ; "
        self.check("breaks", ["begin c, end a"], "put a read p 1 link | b nop", cancel, "stop", "quiet -> -", told + "a stopped yes")
        # An end that is good, or of one with "hard" that had begun, would not have broken it.
        self.check("breaks", [], "put a read p 1 link | b nop", cancel, "give p a -> 0", "quiet -> -", told + "a text p 0 a")
        self.check("breaks", [], "put a read p 1 hard | b nop", cancel, "stop", "quiet -> -", told + "a stopped yes")
        self.check("breaks", [], "put w work bad link | b nop", "quiet -> -", "reap 9 -> w bad ; b broken w")
        self.check("breaks", ["begin c, begin e"], "put a read p 1 link | d nop link | b nop", cancel, "put e cancel a", "quiet -> -",
                   told + "a cancelled e yes ; d broken a ; e took yes")
        self.check("breaks", ["begin c, begin e"], "put a read p 1 link | d nop link | b nop", cancel, "put e cancel d", "quiet -> a yes -",
                   told + "d cancelled e no ; e took no")
        self.check("breaks", ["end b, end w"], "put w work bad link | b nop", "stop", "quiet -> -", "reap 9 -> b stopped no ; w bad")
        self.check("breaks", [], "put a read p 1 link | b nop", "stop", "quiet -> -", "reap 9 -> a stopped yes ; b stopped no")

    def test_drain(self):
        # f is of the chain of d, and u no member; t ends where a does.
        self.check("drain", ["end a, begin d", "begin b, begin d", "begin d, begin e"],
                   "put a work good link | t linktimeout 9 | b nop | d nop drain link | f nop | e read p 1 link | u linktimeout 9", "give p a -> 0",
                   "quiet -> -", "reap 9 -> a done ; t off ; b done ; d done ; f done ; e text p 0 a ; u off")
        self.check("drain", ["end t, begin d", "end w, begin d"], "put w work good link | t linktimeout 0", "put d nop drain", "quiet -> -",
                   "reap 9 -> t late ; w done ; d done")
        self.check("drain", ["begin a, begin b", "begin a, begin c", "begin b, begin c"], "put a nop drain | b nop drain | c nop drain",
                   "quiet -> -", "reap 9 -> a done ; b done ; c done")
        self.check("drain", [], "put x read p 1 | d nop drain", "quiet -> d no - ; x yes -")
        self.check("drain", [], "put a nop | d nop", "quiet -> -", "reap 9 -> a done ; d done")

    def test_off(self):
        lot = "put r read p 1 link | t linktimeout 3"
        self.check("off", ["begin c, end r"], lot, "put c cancel t", "give p a -> 0", "quiet -> -",
                   "reap 9 -> t cancelled c yes ; c took yes ; r text p 0 a")
        self.check("off", ["begin c, begin r", "begin c, end r"], lot, "put c cancel t", "give p a -> 0", "quiet -> -",
                   "reap 9 -> t cancelled c no ; c took no ; r text p 0 a")
        self.check("off", ["begin c, begin r"], lot, "put c cancel t", "quiet -> r yes -", "reap 9 -> t cancelled c no ; c took no")
        self.check("off", ["end t, end w"], "put w work good link | t linktimeout 0", "quiet -> -", "reap 9 -> t late ; w done")
        self.check("off", [], lot, "give p a -> 0", "quiet -> -", "reap 9 -> r text p 0 a ; t off")
        self.check("off", [], lot, "clock 3", "quiet -> -", "reap 9 -> r cancelled t yes ; t time")

    def test_turn(self):
        self.check("turn", ["begin u, begin r", "begin u, begin v", "begin r, begin v"], "put u update 1 p | v update 1 q | r read #1 1",
                   "give p a -> 0", "quiet -> -", "reap 9 -> u turn 1 ; r text p 0 a @1 ; v turn 2 ; #1 freed 1")
        self.check("turn", ["begin r, begin u"], "put r read #0 1 | u update 0 q", "quiet -> r yes 0", "reap 9 -> u turn 1")
        self.check("turn", ["begin r, begin u"], "put r read #1 1 | u update 1 q", "quiet -> -", "reap 9 -> r bare @0 ; u turn 1")
        self.check("turn", [], "put u update 1 p | r read #0 1", "quiet -> r yes 0", "reap 9 -> u turn 1")
        self.check("turn", [], "put r read #0 1 | s read #0 1", "quiet -> r yes 0 ; s yes 0")

    def test_letter(self):
        self.check("letter", ["user 0, end r", "user 0, end w", "end w, user 2"], "give p a -> 0", "put w write p b | r read p 1", "take p 1 -> 1 b",
                   "quiet -> -", "reap 9 -> r text p 0 a ; w wrote p 1")
        self.check("letter", ["user 0, end x"], "give p ab -> 0", "put x read p 1 pick", "quiet -> -", "reap 9 -> x no-buffer p 0 0")
        self.check("letter", ["user 1, fire s 0", "user 1, fire s 1"], "put s reads p 1", "give p ab -> 0", "quiet -> s yes -",
                   "reap 9 -> s text p 0 a + ; s text p 1 b +")
        self.check("letter", [], "give p ab -> 0", "give q c -> 0", "quiet -> -")

    def test_taken(self):
        setup = "ring 9 2 pipes p slots"
        self.check("taken", ["user 2, end w", "user 2, end r"], "give p ab -> 0", "put w write p c | r read p 1 pick", "take p 1 -> 0 a",
                   "quiet -> -", "reap 9 -> r no-buffer p 1 0 ; w wrote p 2", setup=setup)
        self.check("taken", ["user 1, user 2"], "give p a -> 0", "take p 1 -> 0 a", "take p 1 -> 1 -", "quiet -> -")
        self.check("taken", ["user 1, end r"], "give p a -> 0", "take p 1 -> 0 a", "put s shut p | r read p 1", "quiet -> -",
                   "reap 9 -> s done ; r end p 1 s")
        self.check("taken", ["user 1, end r", "end r, end x"], "give p abc -> 0", "take p 1 -> 0 a", "put r read p 1 | x read p 1", "quiet -> -",
                   "reap 9 -> r text p 1 b ; x text p 2 c")
        # A give does not wait for room, nor a write for letters nearer than that.
        self.check("taken", [], "give p a -> 0", "take p 1 -> 0 a", "give p bc -> 1", "quiet -> -", setup=setup)
        self.check("taken", [], "give p a -> 0", "put w write p b", "take p 1 -> 0 a", "quiet -> -", "reap 9 -> w wrote p 1", setup=setup)
        self.check("taken", [], "give p a -> 0", "take p 1 -> 0 a", "quiet -> -")

    def test_short(self):
        gives = ("give p a -> 0", "give p b -> 1", "quiet -> -")
        self.check("short", ["end r, user 2"], "put r read p 2", *gives, "reap 9 -> r text p 0 a")
        self.check("short", [], "put r read p 1", *gives, "reap 9 -> r text p 0 a")
        self.check("short", ["fire s 0, user 2"], "put s reads p 2", *gives[:2], "quiet -> s yes -", "reap 9 -> s text p 0 a + ; s text p 1 b +")
        self.check("short", ["user 1, user 2"], "give p a -> 0", "take p 3 -> 0 a", "give p bc -> 1", "quiet -> -")
        self.check("short", ["user 0, user 1"], "take p 1 -> 0 -", "give p a -> 0", "quiet -> -")
        self.check("short", ["user 0, end w"], "take p 1 -> 0 -", "put w write p a", "quiet -> -", "reap 9 -> w wrote p 0")
        self.check("short", ["end x, user 2"], "give p a -> 0", "put x read p 1 pick", "take p 1 -> 0 a", "quiet -> -", "reap 9 -> x no-buffer p 0 0")
        self.check("short", [], "give p a -> 0", "put x read p 1 pick", "quiet -> -", "reap 9 -> x no-buffer p 0 0")

    def test_shut(self):
        self.check("shut", ["begin s, end v", "begin s, begin z", "begin s, end r", "begin s, user 4", "user 0, begin s", "end w, begin s"],
                   "give p a -> 0", "put w write p b | s shut p | v write p c | z shut p", "take p 9 -> 0 ab", "put r read p 1", "give p d -> shut s",
                   "quiet -> -", "reap 9 -> w wrote p 1 ; s done ; v broken-pipe p s ; z shut-already s ; r end p 2 s")
        self.check("shut", [], "give p a -> 0", "put s shut q | w write p b", "quiet -> -", "reap 9 -> s done ; w wrote p 1")

    def test_lent(self):
        self.check("lent", ["user 0, end a", "user 1, end b", "end a, end b"], "lend 1", "lend 2", "give p abc -> 0",
                   "put a read p 1 pick | b read p 1 pick", "quiet -> -", "reap 9 -> a picked p 0 a 0 ; b picked p 1 b 1")
        lines = ("lend 1", "give p ab -> 0", "put a read p 1 pick | b read p 1 pick")
        told = ("quiet -> -", "reap 9 -> a picked p 0 a 0 ; b no-buffer p 1 1")
        self.check("lent", ["user 0, end a", "user 0, end b", "end a, end b", "end b, user 3"], *lines, "lend 1", *told)
        self.check("lent", ["user 0, end a", "user 0, end b", "end a, end b"], *lines, *told)
        self.check("lent", ["end b, user 2"], "give p a -> 0", "put b read p 1 pick", "lend 1", "quiet -> -", "reap 9 -> b no-buffer p 0 0")
        # Of two buffers the later one counts, of the lends as of the picks.
        self.check("lent", ["user 0, end a", "user 1, end b", "user 1, end d", "end a, end b", "end b, end d"], "lend 1", "lend 1", "give p abc -> 0",
                   "put a read p 1 pick | b read p 1 pick | d read p 1 pick", "quiet -> -", "reap 9 -> a picked p 0 a 0 ; b picked p 1 b 1 ; d no-buffer p 2 2")
        self.check("lent", [], "lend 1", "give p a -> 0", "put b read p 1", "quiet -> -", "reap 9 -> b text p 0 a")

    def test_time(self):
        self.check("time", ["user 2, end a", "user 3, end c"], "put a timeout 3 | b timeout 0 | c timeout 5 link | t linktimeout 4", "clock 2",
                   "clock 3", "clock 4", "quiet -> -", "reap 9 -> a time ; b time ; c cancelled t yes ; t time")
        self.check("time", ["user 0, end t"], "clock 2", "put w work good link | t linktimeout 2", "clock 3", "quiet -> -", "reap 9 -> t late ; w done")
        self.check("time", [], "put a read p 1 link | t linktimeout 2", "clock 2", "give p a -> 0", "quiet -> -", "reap 9 -> a text p 0 a ; t off")

    def test_cancel(self):
        self.check("cancel", ["begin a, begin c"], "put a nop | c cancel a", "quiet -> -", "reap 9 -> a done ; c gone")
        self.check("cancel", ["begin w, begin c", "begin c, end w"], "put w work good | c cancel w", "quiet -> -", "reap 9 -> c late ; w done")
        self.check("cancel", [], "put r read p 1 | c cancel r", "quiet -> -", "reap 9 -> r cancelled c yes ; c took yes")
        # t, the linktimeout of a work that goes on, ends with k; of an end behind k nothing is told here.
        self.check("cancel", ["begin a, begin k", "begin t, begin k", "begin k, end w"], "put a nop | w work good link | t linktimeout 9",
                   "put r read p 1 | k cancelall | b nop", "quiet -> -", "reap 9 -> a done ; r cancelled k yes ; t cancelled k yes ; k all r yes t yes / w ; w done ; b done")
        self.check("cancel", ["end w, begin k", "end t, begin k"], "put w work good link | t linktimeout 0", "put k cancelall", "quiet -> -",
                   "reap 9 -> t late ; w done ; k all /")
        # One that did not end by itself waited for nobody.
        self.check("cancel", [], "put a read p 1 link | k cancelall", "put c cancel k", "give p a -> 0", "quiet -> -",
                   "reap 9 -> k cancelled c no ; c took no ; a text p 0 a")

    def test_stop(self):
        lot = "put a nop | r read p 1 | w work good link | t linktimeout 0 | b nop"
        self.check("stop", ["begin a, end b", "begin t, end b"], lot, "stop", "put z nop -> stopped", "quiet -> -",
                   "reap 9 -> a done ; r stopped yes ; b stopped no ; t late ; w done")
        self.check("stop", ["end x, user 1"], "put x timeout 0",
                   "stop", "quiet -> -", "reap 9 -> x time")
        self.check("stop", [], "put a nop", "quiet -> -", "reap 9 -> a done")

    def test_free(self):
        lot = "put r read #0 1 | u update 0 q | v update 0 p | s read #0 1"
        self.check("free", ["begin u, free 0 0", "end r, free 0 0", "begin v, free 0 1"], lot, "give p a -> 0", "quiet -> s yes 2",
                   "reap 9 -> r text p 0 a @0 ; u turn 1 ; v turn 2 ; #0 freed 1 ; #0 freed 0")
        self.check("free", ["begin v, free 0 1"], lot, "quiet -> r yes 0 ; s yes 2", "reap 9 -> u turn 1 ; v turn 2 ; #0 freed 1")
        self.check("free", [], "put u update 1 q", "quiet -> -", "reap 9 -> u turn 1")

    def test_post(self):
        self.check("post", ["fire s 0, post 0", "begin a, post 1", "post 0, post 1"], "put a nop | s reads p 1", "give p a -> 0", "quiet -> s yes -",
                   "reap 9 -> s text p 0 a + ; a done")
        self.check("post", ["begin u, post 0", "free 0 0, post 1", "post 0, post 1"], "put u update 0 q", "quiet -> -", "reap 9 -> u turn 1 ; #0 freed 0")
        self.check("post", ["begin a, post 1", "begin b, post 0", "begin c, post 2", "post 0, post 1", "post 1, post 2"], "put a nop | b nop | c nop",
                   "quiet -> -", "reap 1 -> b done", "reap 5 -> a done ; c done")
        self.check("post", [], "put a nop silent", "quiet -> -")

    def test_reap(self):
        self.check("reap", ["post 0, user 1", "post 1, user 3"], "put a nop | b nop", "reap 1 -> a done", "quiet -> -", "reap 9 -> b done")
        self.check("reap", ["user 1, post 0", "post 0, user 3"], "put a nop", "reap 2 -> -", "quiet -> -", "reap 9 -> a done")
        self.check("reap", ["post 0, user 1", "user 1, post 1", "post 1, user 3"], "put a nop | b nop", "reap 2 -> a done", "quiet -> -", "reap 9 -> b done")
        # As many as the queue holds.
        self.check("reap", ["post 0, user 1", "post 1, user 3"], "put a nop | b nop", "reap 5 -> a done", "quiet -> -", "reap 9 -> b done", setup=ONE)
        self.check("reap", ["post 0, user 2", "post 1, user 2"], "put a nop | b nop", "quiet -> -", "reap 2 -> a done ; b done")

    def test_space(self):
        lines = ("put a nop | b nop", "reap 5 -> a done", "quiet -> -")
        self.check("space", ["user 1, post 1"], *lines, "reap 9 -> b done", setup=ONE)
        self.check("space", ["post 1, user 1"], *lines, "reap 9 -> b done !", setup=ONE)
        self.check("space", [], *lines, "reap 9 -> b done")
        three = ("put a nop | b nop | c nop | d nop", "quiet -> -", "reap 1 -> a done", "reap 2 -> b done ; c done !", "reap 2 -> d done !")
        self.check("space", ["post 2, user 2", "post 3, user 3"], *three, setup="ring 2 4 pipes slots")

    def test_busy(self):
        self.check("busy", ["user 0, post 1", "post 1, user 1"], "put a nop | b nop", "put c nop -> busy", "quiet -> -",
                   "reap 1 -> a done", "reap 1 -> b done !", setup=ONE)
        self.check("busy", ["user 0, post 1", "user 1, post 1"], "put a nop | b nop", "put c nop", "quiet -> -", "reap 1 -> a done", "reap 1 -> b done !",
                   "reap 1 -> c done !", setup=ONE)
        # Behind a reap it takes one post more; a put that was told "stopped" was not looked at.
        self.check("busy", ["user 0, post 1", "user 2, post 2"], "put a nop | b nop", "reap 1 -> a done", "put c nop", "stop", "put z nop -> stopped",
                   "quiet -> -", "reap 1 -> b done", "reap 1 -> c done !", setup=ONE)
        self.check("busy", [], "put a nop", "quiet -> -", "reap 1 -> a done", setup=ONE)

    def test_quiet(self):
        self.check("quiet", ["begin a, user 1", "post 0, user 1", "begin r, user 1", "user 1, end r",
                             "begin a, user 3", "end r, user 3", "post 0, user 3", "post 1, user 3"],
                   "put a nop | r read p 1", "quiet -> r yes -", "give p a -> 0", "quiet -> -", "reap 9 -> a done ; r text p 0 a")
        self.check("quiet", ["begin x, user 1", "user 1, end x", "user 1, begin b", "end x, user 3", "begin b, user 3", "post 0, user 3", "post 1, user 3"],
                   "put x read p 1 link | b nop", "quiet -> b no - ; x yes -", "give p a -> 0", "quiet -> -", "reap 9 -> x text p 0 a ; b done")
        self.check("quiet", ["begin a, user 2", "post 0, user 2"], "quiet -> -", "put a nop", "quiet -> -", "reap 9 -> a done")
        self.check("quiet", ["begin a, user 1"], "put a nop silent", "quiet -> -")

    def test_quiet_and_fires(self):
        self.check("quiet", ["begin s, user 2", "fire s 0, user 2", "post 0, user 2", "user 2, fire s 1",
                             "begin s, user 4", "fire s 0, user 4", "fire s 1, user 4", "post 0, user 4", "post 1, user 4"],
                   "put s reads p 1", "give p a -> 0", "quiet -> s yes -", "give p b -> 1", "quiet -> s yes -", "reap 9 -> s text p 0 a + ; s text p 1 b +")
        # The fire of one that has ended has no triple, but its post has.
        self.check("quiet", ["end s, user 3", "begin h, user 3", "post 0, user 3", "post 1, user 3", "post 2, user 3"],
                   "put s reads p 1", "give p a -> 0", "put h shut p", "quiet -> -", "reap 9 -> s text p 0 a + ; h done ; s end p 1 h")
        self.check("quiet", ["begin s, user 1", "end w, user 1", "fire s 0, user 1", "post 0, user 1", "post 1, user 1"], "put s reads p 1 | w write p a",
                   "quiet -> s yes -", "reap 9 -> s text p 0 a + ; w wrote p 0")
        # The letter of w, which is in the table, came behind the quiet, and so did the fire that took it.
        self.check("quiet", ["begin s, user 1", "begin x, user 1", "user 1, end w", "user 1, begin w", "user 1, end x", "user 1, fire s 0",
                             "begin s, user 3", "end x, user 3", "end w, user 3", "fire s 0, user 3", "post 0, user 3", "post 1, user 3", "post 2, user 3"],
                   "put s reads p 1 | x timeout 1 link | w write p a", "quiet -> s yes - ; w no - ; x yes -", "clock 1", "quiet -> s yes -",
                   "reap 9 -> x time ; w wrote p 0 ; s text p 0 a +")

    def test_quiet_and_frees(self):
        self.check("quiet", ["begin u, user 1", "begin r, user 1", "post 0, user 1", "user 1, end r", "user 1, free 0 0",
                             "begin u, user 3", "end r, user 3", "free 0 0, user 3", "post 0, user 3", "post 1, user 3", "post 2, user 3"],
                   "put r read #0 1 | u update 0 q", "quiet -> r yes 0", "give p a -> 0", "quiet -> -", "reap 9 -> u turn 1 ; r text p 0 a @0 ; #0 freed 0")
        self.check("quiet", ["user 0, free 0 0", "begin u, user 2", "free 0 0, user 2", "post 0, user 2", "post 1, user 2"],
                   "quiet -> -", "put u update 0 q", "quiet -> -", "reap 9 -> u turn 1 ; #0 freed 0")


class MustTest(unittest.TestCase):
    def test_all_triples_of_a_history(self):
        made, history = closed_in(PQ, "put a nop silent", "quiet -> -")
        self.assertEqual(must(made, history), [
            (("begin", "a"), "quiet", ("user", 1)), (("user", 0), "put", ("begin", "a")), (("user", 0), "user", ("user", 1)),
            (("user", 1), "user", ("user", 2))])

    def test_nodes_are_named_by_the_least_of_their_steps(self):
        made, history = closed_in(PQ, "put w work good link | t linktimeout 0 | a nop", "put c cancel a", "quiet -> -",
                                  "reap 9 -> a cancelled c no ; c took no ; t late ; w done")
        told = must(made, history)
        self.assertIn((("begin", "t"), "begun", ("end", "w")), told)
        self.assertIn((("begin", "c"), "post", ("post", 0)), told)
        self.assertNotIn(("begin", "w"), [node for row in told for node in (row[0], row[2])])
        self.assertNotIn(("end", "a"), [node for row in told for node in (row[0], row[2])])

    def test_it_does_not_ask_whether_the_history_is_possible(self):
        late = (
            (("put", (("r", ("read", ("slot", 0), 1), ("link",)), ("u", ("update", 0, "p"), ()))), None), (("give", "p", "a"), ("given", 0)),
            (("quiet",), ()), (("reap", 5), (("r", ("text", "p", 0, "a"), 1, False, False), ("u", ("turn", 1), None, False, False))), (("reap", 5), ()))
        told = must((2, 4, ("p",), (None,)), late)
        for row in ((("begin", "r"), "begun", ("end", "r")), (("end", "r"), "chain", ("begin", "u")), (("begin", "u"), "turn", ("begin", "r"))):
            self.assertIn(row, told)

    def test_no_run_goes_against_them(self):
        kinds = {}
        for maker in [Maker(seed) for seed in range(300)] + [ChainMaker(seed) for seed in range(300)]:
            done = []
            history = maker.run(maker.script(), lambda ring, step: done.append(step)).history()
            places = {step: at for at, step in enumerate(named_posts(done))}
            names = {node[0]: at for node in nodes(maker.setup, history) for at in [places[step] for step in node if step in places]}
            for node, kind, other in must(maker.setup, history):
                kinds[kind] = True
                self.assertLess(names[node], names[other], (history, node, kind, other))
        # Each kind occurs in these runs.
        self.assertEqual(sorted(kinds), sorted(KINDS))

    def test_not_closed(self):
        setup = setup_in(PQ)
        for text in ("", "quiet -> -", "quiet -> -\nreap 1 -> -\nlend 1", "give p a -> 1\nquiet -> -"):
            with self.subTest(text=text), self.assertRaises(NotClosed):
                must(setup, history_in(setup, text))

    def test_no_sums(self):
        for word, what, lines in (("end", "a", ["put a nop", "quiet -> -"]), ("letters", "p", ["give p a -> 1", "quiet -> -"])):
            with self.assertRaises(NoSums) as caught:
                must(*closed_in(PQ, *lines))
            self.assertEqual((caught.exception.word, caught.exception.what), (word, what))

    def test_lists_and_names_of_arguments(self):
        setup, history = closed_in(PQ, "put r read #0 1 | u update 0 q | l cancelall", "quiet -> -",
                                   "reap 9 -> u turn 1 ; r cancelled l yes @0 ; l all r yes / ; #0 freed 0")
        wanted = must(setup, history)
        given = [as_lists(setup), as_lists(history)]
        copies = deepcopy(given)
        self.assertEqual(repr(must(*given)), repr(wanted))
        self.assertEqual(given, copies)
        self.assertEqual(must(history=history, setup=setup), wanted)

    def test_every_list_is_new(self):
        setup, history = closed_in(PQ, "put a nop", "quiet -> -", "reap 1 -> a done")
        wanted = must(setup, history)
        must(setup, history).clear()
        self.assertEqual(must(setup, history), wanted)


if __name__ == "__main__":
    unittest.main()
