import unittest

from endonce.errors import BadEvent, BadLine
from endonce.texts import history_in, history_text, script_in, script_text, setup_in, setup_text
from test_texts import COMPLETIONS, EVENTS, LOT_TEXT, REQUESTS, SETUPS, TOLD
from things import SETUP

SIGNS = ("", "-", "->", "|", "/", ";", "#", "@", "+", "!", "#0", "@0", "0", "1", "00", "01", "-1", "+1", "1.0", "a", "A", "p9",
         "abcdefghi", "yes", "link", "None", "?", "0123456789012", "1234567890123")


def words_spoiled(line):
    """Lines that differ from this one in a word: left out, doubled, exchanged with the next one, or with a sign beside it."""
    words = line.split(" ")
    for at, word in enumerate(words):
        yield " ".join(words[:at] + words[at + 1:])
        yield " ".join(words[:at] + [word, word] + words[at + 1:])
        yield " ".join(words[:at] + words[at + 1:at + 2] + [word] + words[at + 2:])
        for sign in SIGNS:
            yield " ".join(words[:at] + [sign] + words[at:])
            yield " ".join(words[:at] + [sign] + words[at + 1:])
        yield " ".join(words[:at] + [word + " "] + words[at + 1:])
        yield " ".join(words[:at] + [word + "\t"] + words[at + 1:])
        yield " ".join(words[:at] + [word.upper()] + words[at + 1:])
    yield from (line + " ", " " + line, line + "\n", "\n" + line, line + " -> -", line + " ->", line.replace(" ", "  ", 1))


class BadTextTest(unittest.TestCase):
    def refused(self, error, values, function, *given):
        with self.subTest(given=given), self.assertRaises(error) as caught:
            function(*given)
        if hasattr(caught, "exception"):
            self.assertEqual(vars(caught.exception), values)

    def bad_line(self, number, text, function=script_in):
        self.refused(BadLine, {"number": number}, function, SETUP, text)

    def bad_event(self, number, word, text, function=script_in):
        self.refused(BadEvent, {"number": number, "word": word}, function, SETUP, text)


class SetupInTest(BadTextTest):
    def test_texts_of_no_setup(self):
        bad = (
            "", "ring", "ring 2 6", "ring 2 6 pipes", "ring 2 6 slots", "ring 2 6 pipes p", "2 6 pipes p slots", "rings 2 6 pipes p slots",
            "Ring 2 6 pipes p slots", "ring 0 6 pipes p slots", "ring 2 0 pipes p slots", "ring -1 6 pipes p slots",
            "ring 02 6 pipes p slots", "ring 2 06 pipes p slots", "ring 1234567890123 6 pipes p slots", "ring 2 6 pipes q p slots",
            "ring 2 6 pipes p p slots", "ring 2 6 pipes P slots", "ring 2 6 pipes abcdefghi slots", "ring 2 6 pipes p slots q",
            "ring 2 6 pipes p slots p -p", "ring 2 6 pipes - slots", "ring 2 6 pipes p slots #0", "ring 2 6 pipes p slots p ",
            " ring 2 6 pipes p slots", "ring  2 6 pipes p slots", "ring 2 6 pipes p slots\n", "ring 2 6 pipes p\nslots",
            "ring 2 6 pipes slots slots slots a", "ring 2 6 pipes p, slots", "ring 2 6 pipe p slots",
            "ring 2 6 pipes p slot", "ring two 6 pipes p slots", "ring 2 6 7 pipes p slots", "ring 2 6 slots p pipes p",
            "ring 2 6 pipes p slots --", "ring 2 6 pipes p slots None", "pipes p slots", "ring 2 6 pipes pslots",
        )
        for text in bad:
            self.refused(BadLine, {"number": 0}, setup_in, text)

    def test_a_spoiled_word(self):
        refused = 0
        for _, text in SETUPS[:4]:
            for other in words_spoiled(text):
                # What is put in may happen to give another SETUP, which then has this text.
                try:
                    self.assertEqual(setup_text(setup_in(other)), other)
                except BadLine as error:
                    self.assertEqual(error.number, 0)
                    refused += 1
        self.assertGreater(refused, 400)


class BadLineTest(BadTextTest):
    def test_the_first_line_that_is_not_written_so(self):
        self.bad_line(0, "\n")
        self.bad_line(1, "put a nop\n")
        self.bad_line(0, "\nput a nop")
        self.bad_line(1, "quiet\n\nquiet")
        self.bad_line(2, "quiet\nstop\nquit\nstop\nstip")
        self.bad_line(0, "\n", history_in)
        self.bad_line(1, "quiet -> -\n", history_in)
        self.bad_line(2, "quiet -> -\nstop\nquiet\nstop\nstip", history_in)

    def test_it_is_told_ahead_of_a_bad_event(self):
        self.bad_line(2, "put a nop\nput a nop\nput a noop")
        self.bad_line(2, "stop\nstop\nclock 0")
        self.bad_line(2, "stop\nstop\nclock 5 -> -", history_in)
        self.bad_line(1, "reap 1 -> a done\nreap 1", history_in)

    def test_events_that_are_not_written_so(self):
        bad = (
            "put", "put ", "nop", "a nop", "Put a nop", "put a", "put a nop |", "put a nop | ", "put | a nop", "put a nop|b nop",
            "put a nop |b nop", "put a nop  | b nop", "put a nop b nop", "put a nop | | b nop", "put a nop || b nop", "put a nop ; b nop",
            "put A nop", "put a1 nop", "put abcdefghi nop", "put - nop", "put #0 nop", "put a nop links", "put a nop +", "put a nop 1",
            "put a nop good", "put a noop", "put a work", "put a work yes", "put a work Good", "put a work good good", "put a work True",
            "put a read", "put a read p", "put a read 3 p", "put a read p 0", "put a read p -1", "put a read p 01", "put a read #0",
            "put a read # 3", "put a read #00 3", "put a read #-1 3", "put a read 0 3", "put a read ## 3", "put a read #p 3",
            "put a read - 3", "put a read p#0 3", "put a read # 0 3", "put a read pipe p 3", "put a read slot 0 3", "put a reads p",
            "put a reads P 3", "put a read abcdefghi 3", "put a read p three", "put a write p", "put a write p -", "put a write p abcdefg",
            "put a write p A", "put a write p 3", "put a write abc", "put a write p ab cd", "put a shut", "put a shut p 1", "put a shut -",
            "put a timeout", "put a timeout -1", "put a timeout 00", "put a timeout a", "put a timeout 1234567890123", "put a linktimeout",
            "put a cancel", "put a cancel 0", "put a cancel #0", "put a cancel -", "put a cancel a b", "put a cancelall a",
            "put a update 0", "put a update p", "put a update #0 p", "put a update - p", "put a update p 0", "put a update 0 --",
            "put a update 00 p", "put a update 0 0", "put a update 0 p -", "put a cancel-all",
            "reap", "reap 0", "reap -1", "reap 1 1", "reap one", "reap 01", "reap 1234567890123", "reap +1", "reap 1_0", "Reap 1",
            "clock", "clock 0", "clock 05", "clock p", "clock 5 5", "give", "give p", "give p -", "give p abcdefg", "give p ABC",
            "give #0 a", "give p a b", "give - a", "give abcdefghi a", "give p 1", "take", "take p", "take p 0", "take p -", "take #0 1",
            "take p 1 1", "take 1 p", "lend", "lend 0", "lend p", "lend 1 1", "quiet -", "quiet 1", "quiet quiet", "quiets", "stop -",
            "stop 1", "stops", " ", "-", "ring 2 6 pipes p slots", "user 0", "begin a", "quiet ->", "stop ->", "quiet -> -",
            "give p a -> 0", "put a nop -> busy", "reap 1 -> -", "clock 5 -> -", "put a nop ->", "put a nop -> ", "put a nop\tlink",
        )
        for text in bad:
            self.bad_line(0, text)
            if "->" not in text:
                self.bad_line(1, "stop\n" + text, history_in)

    def test_told_that_is_not_written_so(self):
        bad = {
            "put a nop": ("", "-", "none", "None", "Busy", "busy busy", "stopped busy", "stop", "done", " busy", "busy ", "0"),
            "give p a": ("", "-", "a", "-1", "00", "0 0", "given 0", "shut", "shut 0", "shut -", "shut a b", "a shut", "SHUT a", "0 ",
                         "shut #0", "1234567890123", "shut abcdefghi"),
            "take p 3": ("", "-", "0", "a", "0 --", "- 0", "a 0", "0 a b", "0 -a", "0 A", "0 0", "00 a", "-1 a", "0 a -", " 0 a", "0  a"),
            "clock 5": ("", "-", "None", "5"), "lend 5": ("", "-", "0"), "stop": ("", "-", "stopped"),
            "quiet": ("", "--", "a", "a no", "a no - -", "a no - ;", "; a no -", "a no -;b no -", "a no - ; ", "a no - ; -", "- ; a no -",
                      "a no - b no -", "a - no", "no a -", "a False None", "a 0 -", "a yes 00", "a yes #0", "a yes @0", "#0 no -",
                      "A no -", "a no - | b no -", "a no None", "a yes p", " a no -", "a no -  ; b no -", "0 no -", "a NO -"),
            "reap 5": ("", "--", "a", "done", "done a", "a Done", "a done -", "a done ;", "; a done", "a done;b done", "a done ; -",
                       "- ; a done", "a done | b done", "a done b done", "a done 0", "a done yes", "a done @", "a done @ 0", "a done 0@",
                       "a done @00", "a done @-1", "a done #0", "a done + +", "a done ! !", "a done ! +", "a done + @0", "a done ! @0",
                       "a done +!", "a done @0+", "a done @0 @0", "a done no no", "@0 a done", "a @0 done", "a + done", "! a done",
                       "a text p 0", "a text p 0 -", "a text 0 p a", "a text p a", "a text p 0 a 0", "a text p 0 A", "a text #0 0 a",
                       "a text - 0 a", "a picked p 0 a", "a picked p 0 a #0", "a no buffer p 0 1", "a nobuffer p 0 1", "a no_buffer p 0 1",
                       "a no-buffer p 0", "a no--buffer p 0 1", "a no-buffer p 0 1 1", "a end p 0", "a end p a", "a end p 0 0", "a bare 0",
                       "a wrote p", "a wrote p 0 ab", "a broken pipe p h", "a broken-pipe p", "a broken-pipe h p q", "a broken-pipe p 0",
                       "a shut already h", "a shut-already", "a shut-already 0", "a time 0", "a took", "a took True", "a took -",
                       "a cancelled", "a cancelled c", "a cancelled no c", "a cancelled c maybe", "a stopped", "a stopped c no",
                       "a broken", "a broken 0", "a broken b no", "a all", "a all a yes", "a all a /", "a all yes a /", "a all / /",
                       "a all a yes b /", "a all a yes, b no /", "a all / a yes 0", "a all / -", "a all - / -", "a all / a @", "a all /a",
                       "a all a yes/", "a turn", "a turn -1", "a turn p", "a turn #1", "a freed", "#0 freed", "#0 freed #0", "# freed 0",
                       "#00 freed 0", "0 freed 0", "# 0 freed 0", "#-1 freed 0", "#p freed 0", "##0 freed 0", "#0#0 freed 0", "A done",
                       "abcdefghi done", "a text p 0 a @", "a text p 0 a +0", "- done", " a done", "a done ", "a  done", "a done  ; b done",
                       "a done\tb", "a done @1234567890123"),
        }
        for line, texts in bad.items():
            for text in texts:
                self.bad_line(0, f"{line} -> {text}", history_in)
                self.bad_line(1, f"stop\n{line} ->{text.strip()}", history_in)
                self.bad_line(0, f"{line}-> {text}", history_in)
                self.bad_line(0, f"{line} -> {text} -> {text}", history_in)

    def test_without_an_arrow_that_is_wanted(self):
        for line in ("give p a", "take p 1", "quiet", "reap 1"):
            self.bad_line(0, line, history_in)

    def test_with_an_arrow_that_is_not_wanted(self):
        for line in ("put a nop -> busy", "give p a -> 0", "take p 1 -> 0 a", "quiet -> -", "reap 1 -> -"):
            self.assertEqual(len(history_in(SETUP, line)), 1)
            self.bad_line(0, line)

    def test_a_spoiled_word_of_a_script(self):
        lines = ["put " + text for _, text in REQUESTS] + [text for _, text in EVENTS]
        self.spoil([line for line in lines if "link" not in line and "hard" not in line], script_in, "")

    def test_a_spoiled_word_of_a_history(self):
        lines = [f"reap 5 -> {text}" for _, text in COMPLETIONS] + [text for _, _, text in TOLD]
        self.spoil(lines, history_in, LOT_TEXT + "\n")

    def spoil(self, lines, function, start):
        """Check that a text which is read at all is the text of what was read."""
        write = script_text if function is script_in else history_text
        refused = 0
        for line in lines:
            for other in words_spoiled(line):
                try:
                    thing = function(SETUP, start + other)
                except (BadLine, BadEvent):
                    refused += 1
                else:
                    self.assertEqual(write(thing), start + other)
        self.assertGreater(refused, 100)


class BadEventTest(BadTextTest):
    def test_each_word_of_a_request_alone(self):
        alone = {
            "tag": ("put a nop\nput a nop", "stop\nput b nop | b nop", "put a nop | b nop\nput c nop | b nop"),
            "flags": (
                "put a work bad silent", "put a read p 1 silent", "put a write p a pick", "put a nop pick", "put a timeout 1 silent",
                "put a cancelall silent", "put a update 0 p silent", "put a shut p silent", "put a reads p 1 silent",
                "put a nop link link | b nop", "put a nop link drain | b nop", "put a nop silent link | b nop", "put a nop hard link | b nop",
                "put a nop link hard | b nop", "put a nop drain drain", "put a nop silent silent",
                "put a nop link | t linktimeout 1 drain", "put a nop link | t linktimeout 1 link | b nop",
                "put a nop link | t linktimeout 1 silent"),
            "chain": (
                "put t linktimeout 1", "put a nop | t linktimeout 1", "put a nop link | t linktimeout 1 | u linktimeout 2",
                "put t linktimeout 1 | a nop", "put a nop link | b nop | t linktimeout 1", "put a nop link", "put a nop hard",
                "put a nop | b nop link", "put a nop link | b nop drain", "put a nop link | t linktimeout 1 | b nop drain",
                "put a nop hard | b nop link | c nop drain", "put a nop link | b nop hard",
                "put a nop drain link | t linktimeout 1 | b nop link"),
            "pipe": (
                "put a read r 1", "put a reads r 1", "put a write r a", "put a shut r", "put a update 0 r", "put a update 0 slots",
                "give r a", "take r 1"),
            "slot": ("put a read #2 1", "put a reads #2 1", "put a write #3 a", "put a shut #2", "put a update 2 p", "put a update 2 -",
                     "put a update 999999999999 -"),
            "cancel": ("put a cancel b", "put a cancel a", "put a cancel b | b nop", "put a nop | b cancel c"),
            "clock": ("clock 5\nclock 5", "clock 5\nclock 4", "clock 1\nput a nop\nclock 1"),
            "stop": ("stop\nstop", "stop\nclock 1\nstop"),
        }
        for word, texts in alone.items():
            for text in texts:
                self.bad_event(text.count("\n"), word, text)
                told = text.replace("give r a", "give r a -> 0").replace("take r 1", "take r 1 -> 0 -")
                self.bad_event(text.count("\n"), word, told, history_in)

    def test_the_good_neighbours(self):
        good = (
            "put a nop\nput b nop", "put a nop link | t linktimeout 1", "put a nop drain link | b nop | c nop drain",
            "put a nop hard | t linktimeout 1 | b nop | d nop drain", "put a nop\nput b cancel a", "put a nop | b cancel a",
            "put a read #1 1 drain pick", "put a update 1 q", "clock 5\nclock 6", "put a nop link | t linktimeout 1 | c cancel t",
        )
        for text in good:
            self.assertEqual(len(script_in(SETUP, text)), text.count("\n") + 1)
        self.assertEqual(len(history_in(SETUP, "put a nop -> busy\nput c cancel a")), 2)

    def test_the_first_word_of_a_request(self):
        self.bad_event(1, "tag", "put a nop\nput a read r 1 silent link")
        self.bad_event(0, "flags", "put a read r 1 silent link")
        self.bad_event(0, "flags", "put t linktimeout 1 link")
        self.bad_event(0, "chain", "put a read r 1 link")
        self.bad_event(0, "chain", "put a cancel b hard")
        self.bad_event(0, "chain", "put a nop link | b update 2 r drain")
        self.bad_event(0, "pipe", "put a update 2 r")
        self.bad_event(1, "tag", "put a nop\nput a cancel b")
        self.bad_event(0, "flags", "put a cancel b silent")

    def test_request_by_request(self):
        self.bad_event(0, "cancel", "put a cancel b | a nop")
        self.bad_event(0, "slot", "put a read #2 1 | b nop pick")
        self.bad_event(0, "pipe", "put a read r 1 | t linktimeout 1")
        self.bad_event(0, "chain", "put t linktimeout 1 | t nop")
        self.bad_event(0, "flags", "put a nop pick | a nop")
        self.bad_event(0, "tag", "put a nop | a cancel z | b nop pick")
        self.bad_event(0, "pipe", "put a nop | b shut r link | c nop drain pick | b nop")

    def test_the_first_event(self):
        self.bad_event(1, "stop", "stop\nstop\nput a nop pick\nclock 1\nclock 1")
        self.bad_event(0, "pipe", "give r a\nstop\nstop")
        self.bad_event(1, "told", "put a nop\nreap 1 -> b done\nput a nop", history_in)
        self.bad_event(1, "tag", "put a nop\nput a nop\nreap 1 -> b done", history_in)
        self.bad_event(1, "pipe", "stop\ntake r 1 -> 0 -\nreap 1 -> b done", history_in)

    def test_told(self):
        start = "put n nop | s read #0 2 | r reads p 2 | c cancelall | v nop silent"
        self.assertEqual(len(history_in(SETUP, start)), 1)
        for line in (
                "quiet -> x no -", "quiet -> s no 0", "quiet -> s yes -", "quiet -> n no 0", "quiet -> s no - ; n no -",
                "quiet -> n no - ; n no -", "reap 1 -> x done", "reap 1 -> n bad", "reap 1 -> v done", "reap 1 -> n done @0",
                "reap 1 -> n done +", "reap 1 -> s text p 0 a", "reap 1 -> s text z 0 a @0", "reap 1 -> r text q 0 a +",
                "reap 1 -> r text p 0 a", "reap 1 -> n done ; n done", "reap 1 -> n freed 0", "reap 1 -> #0 done", "reap 1 -> #2 freed 0",
                "reap 1 -> #0 freed 0 @0", "reap 1 -> #0 freed 0 ; #0 freed 0", "reap 1 -> c all b no a no /", "reap 1 -> c all / b a",
                "reap 1 -> c all a no a yes /", "reap 1 -> n took yes", "reap 1 -> s cancelled c yes", "reap 1 -> s cancelled c no @0"):
            self.bad_event(1, "told", f"{start}\n{line}", history_in)
        self.bad_event(2, "told", f"{start}\nreap 1 -> n done\nreap 1 -> n done", history_in)
        self.bad_event(2, "told", f"stop\n{start} -> stopped\nreap 1 -> n done", history_in)
        self.bad_event(0, "told", "reap 1 -> n done\nput n nop", history_in)

    def test_the_examples_of_the_document(self):
        setup = (2, 6, ("p",), (None, "p"))
        self.refused(BadEvent, {"number": 1, "word": "tag"}, script_in, setup, "put a nop\nput a nop")
        self.refused(BadLine, {"number": 1}, script_in, setup, "put a nop\n")


if __name__ == "__main__":
    unittest.main()
