import unittest
from copy import deepcopy

from endonce.data import is_history, is_script, is_setup
from endonce.texts import history_in, history_text, script_in, script_text, setup_in, setup_text
from things import SETUP, as_lists

PIPE = ("pipe", "p")

# SETUPs with their texts; the last ones have names that are words of the texts.
SETUPS = (
    ((2, 6, ("p",), (None, "p")), "ring 2 6 pipes p slots - p"),
    ((1, 1, (), ()), "ring 1 1 pipes slots"),
    ((1, 10 ** 11, (), (None,)), "ring 1 100000000000 pipes slots -"),
    ((10, 203, ("a", "abcdefgh", "b"), ()), "ring 10 203 pipes a abcdefgh b slots"),
    ((3, 2, ("pipes", "ring", "slots"), ("slots", None, "pipes")), "ring 3 2 pipes pipes ring slots slots slots - pipes"),
    ((3, 2, ("slots",), ("slots", "slots")), "ring 3 2 pipes slots slots slots slots"),
    ((3, 2, ("a", "slots", "z"), ("z",)), "ring 3 2 pipes a slots z slots z"),
    ((3, 2, ("slots",), ()), "ring 3 2 pipes slots slots"),
)

# REQUESTs with their texts.
REQUESTS = (
    (("a", ("nop",), ()), "a nop"),
    (("a", ("nop",), ("drain", "hard", "silent")), "a nop drain hard silent"),
    (("a", ("work", True), ()), "a work good"),
    (("a", ("work", False), ("link",)), "a work bad link"),
    (("a", ("read", PIPE, 3), ()), "a read p 3"),
    (("a", ("read", ("slot", 1), 10), ("hard", "pick")), "a read #1 10 hard pick"),
    (("a", ("reads", ("slot", 0), 1), ("drain", "pick")), "a reads #0 1 drain pick"),
    (("a", ("write", PIPE, "abcdef"), ()), "a write p abcdef"),
    (("a", ("write", ("slot", 0), "z"), ("link",)), "a write #0 z link"),
    (("a", ("shut", PIPE), ()), "a shut p"),
    (("a", ("shut", ("slot", 1)), ()), "a shut #1"),
    (("a", ("timeout", 0), ()), "a timeout 0"),
    (("a", ("timeout", 123456789012), ()), "a timeout 123456789012"),
    (("a", ("cancelall",), ()), "a cancelall"),
    (("a", ("update", 0, "q"), ()), "a update 0 q"),
    (("a", ("update", 1, None), ("drain",)), "a update 1 - drain"),
    (("abcdefgh", ("nop",), ()), "abcdefgh nop"),
    (("nop", ("nop",), ()), "nop nop"),
    (("put", ("work", True), ()), "put work good"),
    (("silent", ("nop",), ("silent",)), "silent nop silent"),
    (("link", ("read", PIPE, 1), ()), "link read p 1"),
)

# The other EVENTs with their texts.
EVENTS = (
    (("reap", 1), "reap 1"), (("reap", 999999999999), "reap 999999999999"), (("clock", 20), "clock 20"),
    (("give", "p", "a"), "give p a"), (("give", "q", "give"), "give q give"), (("take", "p", 7), "take p 7"),
    (("lend", 2), "lend 2"), (("quiet",), "quiet"), (("stop",), "stop"),
)

# A lot with a request of each kind, by the first letters of the tags, and its completions with their texts.
LOT = (
    ("n", ("nop",), ()), ("b", ("work", False), ()), ("r", ("read", PIPE, 3), ()), ("s", ("reads", ("slot", 0), 3), ()),
    ("k", ("read", PIPE, 3), ("pick",)), ("m", ("reads", PIPE, 3), ("pick",)), ("w", ("write", PIPE, "ab"), ()),
    ("h", ("shut", ("slot", 1)), ()), ("o", ("timeout", 3), ("link",)), ("t", ("linktimeout", 0), ()),
    ("c", ("cancel", "n"), ()), ("l", ("cancelall",), ()), ("u", ("update", 0, None), ()),
)
LOT_TEXT = (
    "put n nop | b work bad | r read p 3 | s reads #0 3 | k read p 3 pick | m reads p 3 pick | w write p ab"
    " | h shut #1 | o timeout 3 link | t linktimeout 0 | c cancel n | l cancelall | u update 0 -")
COMPLETIONS = (
    (("n", ("done",), None, False, False), "n done"),
    (("n", ("done",), None, False, True), "n done !"),
    (("b", ("bad",), None, False, False), "b bad"),
    (("r", ("text", "p", 0, "abc"), None, False, False), "r text p 0 abc"),
    (("s", ("text", "q", 12, "abcdefgh"), 0, True, False), "s text q 12 abcdefgh @0 +"),
    (("s", ("text", "q", 12, "z"), 10, True, True), "s text q 12 z @10 + !"),
    (("k", ("picked", "p", 0, "a", 3), None, False, False), "k picked p 0 a 3"),
    (("m", ("picked", "p", 0, "a", 0), None, True, False), "m picked p 0 a 0 +"),
    (("k", ("no buffer", "p", 1, 2), None, False, True), "k no-buffer p 1 2 !"),
    (("s", ("end", "p", 4, "who"), 1, False, False), "s end p 4 who @1"),
    (("s", ("bare",), 7, False, True), "s bare @7 !"),
    (("w", ("wrote", "p", 5), None, False, False), "w wrote p 5"),
    (("w", ("broken pipe", "p", "h"), None, False, False), "w broken-pipe p h"),
    (("h", ("shut already", "shut"), 0, False, False), "h shut-already shut @0"),
    (("o", ("time",), None, False, False), "o time"),
    (("t", ("late",), None, False, False), "t late"),
    (("t", ("off",), None, False, False), "t off"),
    (("c", ("took", True), None, False, False), "c took yes"),
    (("c", ("took", False), None, False, False), "c took no"),
    (("c", ("gone",), None, False, False), "c gone"),
    (("c", ("none",), None, False, False), "c none"),
    (("l", ("all", (), ()), None, False, False), "l all /"),
    (("l", ("all", (("a", True), ("b", False)), ()), None, False, True), "l all a yes b no / !"),
    (("l", ("all", (), ("a", "yes")), None, False, False), "l all / a yes"),
    (("l", ("all", (("no", True),), ("yes",)), None, False, True), "l all no yes / yes !"),
    (("u", ("turn", 1), None, False, False), "u turn 1"),
    (("n", ("cancelled", "c", False), None, False, False), "n cancelled c no"),
    (("s", ("cancelled", "yes", True), 2, False, False), "s cancelled yes yes @2"),
    (("s", ("stopped", True), 0, False, False), "s stopped yes @0"),
    (("n", ("broken", "n"), None, False, False), "n broken n"),
    ((0, ("freed", 0), None, False, False), "#0 freed 0"),
    ((1, ("freed", 12), None, False, True), "#1 freed 12 !"),
)

# What events are told, with the texts behind the arrow; the quiets and the reaps stand behind the lot.
TOLD = (
    (("give", "p", "a"), ("given", 0), "give p a -> 0"),
    (("give", "p", "a"), ("given", 10 ** 11), "give p a -> 100000000000"),
    (("give", "p", "a"), ("shut", "h"), "give p a -> shut h"),
    (("give", "p", "a"), ("shut", "shut"), "give p a -> shut shut"),
    (("take", "p", 2), (0, "ab"), "take p 2 -> 0 ab"),
    (("take", "p", 2), (17, ""), "take p 2 -> 17 -"),
    (("take", "q", 1), (1, "abcdefghij"), "take q 1 -> 1 abcdefghij"),
    (("quiet",), (), "quiet -> -"),
    (("quiet",), (("n", False, None),), "quiet -> n no -"),
    (("quiet",), (("n", True, None), ("s", True, 0), ("w", False, None)), "quiet -> n yes - ; s yes 0 ; w no -"),
    (("reap", 3), (), "reap 3 -> -"),
    (("clock", 5), None, "clock 5"),
    (("lend", 5), None, "lend 5"),
    (("stop",), None, "stop"),
)


class SetupTextTest(unittest.TestCase):
    def test_written_and_read(self):
        for setup, text in SETUPS:
            with self.subTest(text=text):
                self.assertTrue(is_setup(setup))
                self.assertEqual(setup_text(setup), text)
                self.assertEqual(repr(setup_in(text)), repr(setup))

    def test_lists_and_names_of_arguments(self):
        setup, text = SETUPS[0]
        given = as_lists(setup)
        self.assertEqual(setup_text(given), text)
        self.assertEqual(given, as_lists(setup))
        self.assertEqual(setup_text(setup=setup), text)
        self.assertEqual(setup_in(text=text), setup)


class ScriptTextTest(unittest.TestCase):
    def check(self, script, text):
        with self.subTest(text=text):
            self.assertTrue(is_script(SETUP, script))
            self.assertEqual(script_text(script), text)
            self.assertEqual(repr(script_in(SETUP, text)), repr(script))

    def test_the_empty_text(self):
        self.check((), "")

    def test_requests(self):
        for request, text in REQUESTS:
            lot = (request,)
            if "link" in request[2] or "hard" in request[2]:
                lot += (("z", ("nop",), ()),)
                text += " | z nop"
            self.check((("put", lot),), "put " + text)

    def test_cancels_and_linktimeouts(self):
        lot = (("a", ("nop",), ("link",)), ("t", ("linktimeout", 0), ()), ("c", ("cancel", "t"), ()), ("d", ("cancel", "c"), ()))
        self.check((("put", lot),), "put a nop link | t linktimeout 0 | c cancel t | d cancel c")
        self.check((("put", LOT),), LOT_TEXT)

    def test_other_events(self):
        for event, text in EVENTS:
            self.check((event,), text)

    def test_several_lines(self):
        events = [row[0] for row in EVENTS] + [("put", LOT)] + [row[0] for row in EVENTS if row[0][0] not in ("clock", "stop")]
        lines = [row[1] for row in EVENTS] + [LOT_TEXT] + [row[1] for row in EVENTS if row[0][0] not in ("clock", "stop")]
        self.check(tuple(events), "\n".join(lines))

    def test_lists_and_names_of_arguments(self):
        script = (("put", LOT), ("quiet",))
        text = LOT_TEXT + "\nquiet"
        given = as_lists(script)
        self.assertEqual(script_text(given), text)
        self.assertEqual(given, as_lists(script))
        self.assertEqual(script_text(script=script), text)
        setup = as_lists(SETUP)
        self.assertEqual(script_in(setup, text), script)
        self.assertEqual(script_in(text=text, setup=SETUP), script)
        self.assertEqual(setup, as_lists(SETUP))


class HistoryTextTest(unittest.TestCase):
    def check(self, history, text):
        with self.subTest(text=text):
            self.assertTrue(is_history(SETUP, history))
            self.assertEqual(history_text(history), text)
            self.assertEqual(repr(history_in(SETUP, text)), repr(history))

    def test_the_empty_text(self):
        self.check((), "")

    def test_told_of_put(self):
        lot = ("put", (("a", ("nop",), ()), ("b", ("nop",), ("silent",))))
        self.check(((lot, None),), "put a nop | b nop silent")
        self.check(((lot, "busy"),), "put a nop | b nop silent -> busy")
        self.check(((lot, "stopped"),), "put a nop | b nop silent -> stopped")

    def test_told_of_other_events(self):
        for event, told, text in TOLD:
            self.check(((("put", LOT), None), (event, told)), LOT_TEXT + "\n" + text)

    def test_completions(self):
        for completion, text in COMPLETIONS:
            history = ((("put", LOT), None), (("reap", 3), (completion,)))
            self.check(history, f"{LOT_TEXT}\nreap 3 -> {text}")

    def test_several_completions(self):
        rows = {completion[0] if completion[1][0] != "freed" else completion[:2]: (completion, text)
                for completion, text in COMPLETIONS if not completion[3]}
        history = ((("put", LOT), None), (("reap", 30), tuple(completion for completion, _ in rows.values())))
        self.check(history, f"{LOT_TEXT}\nreap 30 -> " + " ; ".join(text for _, text in rows.values()))

    def test_all_lines_of_one_history(self):
        events = [(event, told) for event, told, _ in TOLD]
        self.check(((("put", LOT), None), *events), "\n".join([LOT_TEXT] + [text for _, _, text in TOLD]))

    def test_the_example_of_the_document(self):
        setup = (2, 6, ("p",), (None, "p"))
        text = (
            "put a read p 3 link | t linktimeout 5 | b work good silent\nclock 5\nquiet -> b no -\n"
            "reap 9 -> a cancelled t yes ; t time")
        history = history_in(setup, text)
        self.assertEqual(history_text(history), text)
        self.assertEqual(history[1:3], ((("clock", 5), None), (("quiet",), (("b", False, None),))))

    def test_lists_and_names_of_arguments(self):
        history = ((("put", LOT), None), (("quiet",), ()), (("reap", 3), (COMPLETIONS[0][0],)))
        text = LOT_TEXT + "\nquiet -> -\nreap 3 -> n done"
        given = as_lists(history)
        copy = deepcopy(given)
        self.assertEqual(history_text(given), text)
        self.assertEqual(given, copy)
        self.assertEqual(history_text(history=history), text)
        self.assertEqual(history_in(as_lists(SETUP), text), history)
        self.assertEqual(history_in(text=text, setup=SETUP), history)


if __name__ == "__main__":
    unittest.main()
