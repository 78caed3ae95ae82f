import unittest

from endonce.because import because
from endonce.desk import answers
from endonce.errors import BadEvent, BadLine
from endonce.judge import order
from endonce.runs import runs_many
from endonce.texts import history_in, history_text, setup_in, setup_text
from some_runs import Maker

PQ = "ring 9 4 pipes p q slots p -"
# Behind a closed beginning of five pairs stand two more.
LINES = (
    "put r read p 1 link | n nop | s reads #0 1", "give p ab -> 0", "quiet -> s yes 0",
    "reap 9 -> r text p 0 a ; s text p 1 b @0 + ; n done", "reap 9 -> -", "put u update 0 -", "quiet -> s yes 0")
BAD = ("give p ab -> 0", "take p 1 -> 0 b", "quiet -> -", "reap 1 -> -")
RING = ("put r read p 1", "reap 9 -> r text p 0 a", "give p a -> 0", "quiet -> -", "reap 9 -> -")
OPEN = ("put r read p 1 | a nop", "quiet -> r yes -")


def sheet(lines, *requests, setup=PQ):
    return "\n".join([setup, *lines, "", *requests])


class AnswersTest(unittest.TestCase):
    def check(self, lines, *rows, setup=PQ):
        """Rows of a request and its answer, asked together and one by one."""
        told = answers(sheet(lines, *[row[0] for row in rows], setup=setup))
        self.assertIsInstance(told, list)
        self.assertEqual(told, [row[1] for row in rows])
        for request, answer in rows:
            self.assertEqual(answers(sheet(lines, request, setup=setup)), [answer])

    def test_the_examples_of_the_document(self):
        self.assertEqual(
            answers("ring 2 4 pipes p slots -\ngive p a -> 0\nquiet -> -\nreap 1 -> -\n\njudge\norder\nsure user 0, user 2\nruns\nstanding\nshow"),
            ["possible", "user 0; user 1; user 2", "yes", "1", "- | -", "give p a -> 0 / quiet -> - / reap 1 -> -"])
        self.assertEqual(answers("ring 2 4 pipes p slots -\ngive p a -> 0\n\njudge\nbecause a"), ["refused NotClosed", "refused NotClosed"])
        with self.assertRaises(BadEvent) as caught:
            answers("ring 2 4 pipes p slots -\ngive q a -> 0\n")
        self.assertEqual((caught.exception.number, caught.exception.word), (1, "pipe"))

    def test_judge(self):
        self.check(LINES, ("judge", "possible"))
        self.check(BAD, ("judge", "numbers letters p"))
        self.check(["quiet -> -", "reap 1 -> #0 freed 0 ; #0 freed 1", "reap 1 -> -"], ("judge", "numbers reap 1"))
        self.check(RING, ("judge", "ring 4"))
        self.check(OPEN, ("judge", "refused NotClosed"))

    def test_order(self):
        self.check(LINES, ("order", "user 0; begin r; begin s; user 1; end r; begin n; fire s 0; post 0; post 1; post 2; user 2; user 3; user 4"))
        self.check(["put u update 0 -", "quiet -> -", "reap 9 -> u turn 1 ; #0 freed 0", "reap 1 -> -"],
                   ("order", "user 0; begin u; free 0 0; post 0; post 1; user 1; user 2; user 3"))
        self.check(BAD, ("order", "refused NotPossible"))
        self.check(RING, ("order", "refused NotPossible"))
        self.check(OPEN, ("order", "refused NotClosed"))

    def test_sure(self):
        self.check(
            LINES, ("sure begin r, end r", "yes"), ("sure end r, begin r", "no"), ("sure user 0, fire s 0", "yes"), ("sure end n, end n", "no"),
            ("sure begin s, begin r", "no"), ("sure post 0, post 2", "yes"), ("sure end r, fire s 0", "yes"),
            ("sure user 0, user 5", "refused NoStep"), ("sure free 0 0, user 0", "refused NoStep"), ("sure begin z, user 0", "refused NoStep"))
        self.check(BAD, ("sure user 0, user 99", "refused NotPossible"))
        self.check(OPEN, ("sure user 0, user 1", "refused NotClosed"))

    def test_because(self):
        self.check(LINES, ("because n", "begin n; begin r; end n; end r; user 0; user 1"), ("because s", "refused NoStep"), ("because u", "refused NoStep"))
        self.check(RING, ("because r", "begin r; end r; user 0; user 2"))
        self.check(BAD, ("because r", "refused NoSums"))
        self.check(OPEN, ("because r", "refused NotClosed"))

    def test_node(self):
        self.check(
            LINES, ("node begin n", "begin n; end n"), ("node end n", "begin n; end n"), ("node fire s 0", "fire s 0"), ("node user 4", "user 4"),
            ("node post 2", "post 2"), ("node user 5", "refused NoStep"), ("node end s", "refused NoStep"), ("node free 0 0", "refused NoStep"))
        # It does not matter whether the history is possible.
        self.check(RING, ("node end r", "end r"))
        self.check(BAD, ("node user 0", "refused NoSums"), ("node user 99", "refused NoSums"))
        self.check(OPEN, ("node user 0", "refused NotClosed"))

    def test_runs(self):
        self.check(["put a nop | b nop", "quiet -> -", "reap 9 -> a done ; b done", "reap 9 -> -"], ("runs", "3"))
        self.check(LINES, ("runs", str(runs_many(setup_in(PQ), history_in(setup_in(PQ), "\n".join(LINES[:5]))))))
        self.check(BAD, ("runs", "0"))
        self.check(OPEN, ("runs", "refused NotClosed"))
        lot = "put " + " | ".join(f"{tag} nop silent" for tag in "abcdefghijkl")
        self.check([lot, "quiet -> -", "reap 9 -> -"], ("runs", "refused TooMany"))

    def test_fates(self):
        # Of the script of the whole HISTORY, which need not be possible nor closed.
        self.check(LINES, ("fates r", "stays; text p 0 a; text p 1 b"), ("fates s", "stays"), ("fates u", "turn 1"), ("fates z", "refused NoTag"))
        self.check(OPEN, ("fates r", "stays"), ("fates a", "done"))
        self.check(["stop", "put a nop | b shut p -> stopped"], ("fates a", "not-put"))
        self.check(["put r read p 1 | k cancelall | w work good silent", "give p a -> 0", "give p b -> 1"],
                   ("fates r", "cancelled k no; cancelled k yes; text p 0 a"), ("fates k", "all /; all r no /; all r yes /"), ("fates w", "done"))
        self.check(["put h shut p | i shut p"], ("fates h", "done; shut-already i"))
        self.check(["put a nop | b nop", "put c read p 1"], ("fates c", "not-put; stays"), ("fates a", "done"), setup="ring 1 4 pipes p slots")
        self.check([], ("fates a", "refused NoTag"))
        self.check(["put " + " | ".join(f"{tag} nop" for tag in "abcdef")], ("fates a", "refused TooMany"), ("fates z", "refused NoTag"))

    def test_standing(self):
        self.check(LINES, ("standing", "s | n r s"))
        self.check(["put b read p 1 | a read p 1", "give p x -> 0"], ("standing", "- | a b"))
        self.check(["put b read p 1 link | a nop"], ("standing", "a b | a b"))
        self.check(["stop", "put a nop -> stopped"], ("standing", "a | -"))
        self.check([], ("standing", "- | -"))
        self.check(["put " + " | ".join(f"{tag} nop" for tag in "abcdef")], ("standing", "refused TooMany"))

    def test_show(self):
        self.check(LINES, ("show", " / ".join(LINES)))
        self.check(OPEN, ("show", "put r read p 1 | a nop / quiet -> r yes -"))
        self.check([], ("show", "-"))

    def test_several_requests(self):
        self.check(OPEN, ("show", "put r read p 1 | a nop / quiet -> r yes -"), ("judge", "refused NotClosed"), ("show", "put r read p 1 | a nop / quiet -> r yes -"))

    def test_no_requests(self):
        for text in (PQ, PQ + "\n", "\n".join([PQ, *LINES]), "\n".join([PQ, *LINES]) + "\n"):
            self.assertEqual(answers(text), [])

    def test_no_lines_of_a_history(self):
        self.check([], ("judge", "refused NotClosed"), ("order", "refused NotClosed"), ("sure user 0, user 1", "refused NotClosed"), ("because a", "refused NotClosed"),
                   ("node user 0", "refused NotClosed"), ("runs", "refused NotClosed"), ("show", "-"), ("standing", "- | -"))

    def test_the_name_of_the_argument(self):
        self.assertEqual(answers(text=sheet(OPEN, "judge")), ["refused NotClosed"])

    def test_it_tells_what_the_functions_tell(self):
        for seed in range(60):
            maker = Maker(seed, 5)
            history = maker.run(maker.script()).history()
            text = history_text(history)
            told = answers("\n".join([setup_text(maker.setup), *text.split("\n"), "", "judge", "order", "show"]))
            steps = "; ".join(" ".join(map(str, step)) for step in order(maker.setup, history))
            self.assertEqual(told, ["possible", steps, text.replace("\n", " / ")])
            ends = [row[0] for event, rows in history if event[0] == "reap" for row in rows if not row[3] and row[1][0] != "freed"]
            wanted = ["; ".join(" ".join(map(str, step)) for step in because(maker.setup, history, tag)) for tag in ends]
            self.assertEqual(answers("\n".join([setup_text(maker.setup), *text.split("\n"), ""] + [f"because {tag}" for tag in ends])), wanted)


class BadTextsTest(unittest.TestCase):
    def bad_line(self, number, text):
        with self.subTest(text=text), self.assertRaises(BadLine) as caught:
            answers(text)
        self.assertEqual(caught.exception.number, number)

    def bad_event(self, number, word, text):
        with self.subTest(text=text), self.assertRaises(BadEvent) as caught:
            answers(text)
        self.assertEqual((caught.exception.number, caught.exception.word), (number, word))

    def test_the_first_line(self):
        for line in ("", "ring", "ring 2 4 pipes p slots q", "ring 0 4 pipes p slots -", "ring 2 4 pipes p", "ring  2 4 pipes p slots", "judge"):
            self.bad_line(0, line)
            self.bad_line(0, f"{line}\ngive p a -> 0\n\njudge")
            # It is the first of all.
            self.bad_line(0, f"{line}\ngive\n\njudges\n")

    def test_lines_of_the_history(self):
        for line in ("give p a", "quiet", "judge", "clock 5 -> -", " ", "reap 0 -> -", "put a nop link |", "give p a -> 00"):
            self.bad_line(1, sheet([line], "judge"))
            self.bad_line(3, sheet(["quiet -> -", "lend 1", line], "judge"))
            self.bad_line(3, sheet(["quiet -> -", "lend 1", line, line], "judges"))

    def test_requests(self):
        for line in (
                "", "judges", "judge ", " judge", "judge a", "Judge", "order user 0", "sure", "sure user 0", "sure user 0, ", "sure user 0,user 1", "sure user 0 , user 1",
                "sure user 0, user 1, user 2", "sure user 0 user 1", "sure  user 0, user 1", "sure user 00, user 1", "sure user -1, user 1", "sure user, user 1",
                "sure begin 0, user 1", "sure fire r, user 1", "sure fire r 0 1, user 1", "sure free r 0, user 1", "sure take p, user 1", "because", "because ",
                "because r n", "because R", "because abcdefghi", "because 3", "because r, n", "node", "node r", "node post r", "node user 1234567890123", "node free #0 1",
                "node user 0, user 1", "runs 1", "fates", "fates a b", "fates r, n", "standing a", "show all", "give p a -> 0", "quiet"):
            self.bad_line(2, sheet([], line))
            self.bad_line(9, sheet(LINES, line))
            self.bad_line(11, sheet(LINES, "judge", "order", line, "show"))

    def test_a_second_empty_line(self):
        self.bad_line(2, PQ + "\n\n")
        self.bad_line(3, sheet([], "judge", ""))
        self.bad_line(3, sheet([], "judge", "", "judge"))
        self.bad_line(4, sheet(["quiet -> -", "lend 1"], "", "judge"))

    def test_events_that_cannot_stand_there(self):
        self.bad_event(2, "clock", sheet(["clock 5", "clock 5"]))
        self.bad_event(2, "stop", sheet(["stop", "stop"], "judge"))
        self.bad_event(1, "pipe", sheet(["give z a -> 0"], "judge"))
        self.bad_event(2, "tag", sheet(["put a nop", "put a nop"], "judge"))
        self.bad_event(1, "flags", sheet(["put a nop pick"], "judge"))
        self.bad_event(1, "chain", sheet(["put a nop link"], "judge"))
        self.bad_event(1, "slot", sheet(["put a read #2 1"], "judge"))
        self.bad_event(1, "cancel", sheet(["put a cancel b"], "judge"))
        self.bad_event(2, "told", sheet(["put a nop", "reap 1 -> a bad"], "judge"))
        self.bad_event(3, "told", sheet(["put a nop", "quiet -> -", "quiet -> b yes -"]))

    def test_several_at_once(self):
        # Lines that are not written so come ahead of all events, wherever they stand; of each the first one counts.
        self.bad_line(4, sheet(["stop", "stop", "give z a -> 0", "give p"], "judges"))
        self.bad_line(6, sheet(["stop", "stop", "put a nop link"], "judge", "judges"))
        self.bad_line(5, sheet(["stop", "stop", "give z a -> 0"], "", "judges"))
        self.bad_event(2, "stop", sheet(["stop", "stop", "give z a -> 0"], "judge", "because zz"))
        self.bad_event(3, "pipe", sheet(["stop", "lend 1", "give z a -> 0", "stop"], "judge"))


if __name__ == "__main__":
    unittest.main()
