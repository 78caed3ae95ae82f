import unittest
from copy import deepcopy
from random import Random

from endonce.because import because
from endonce.data import is_closed
from endonce.errors import BadLine, BadPair, NoOperation, NoStep, NoSums, NotBare, NotClosed, NotPossible
from endonce.judge import before, judge
from endonce.runs import run
from endonce.session import Session
from endonce.texts import history_in, history_text, script_in, setup_in
from changes import changed
from some_runs import Maker
from things import as_lists

PQ = "ring 9 4 pipes p q slots p -"
# A history with two closed beginnings, of four and of eight pairs.
LINES = (
    "put r read p 1 link | n nop", "give p a -> 0", "quiet -> -", "reap 9 -> r text p 0 a ; n done", "reap 9 -> -", "put c cancel r | s read q 1",
    "quiet -> s yes -", "reap 9 -> c gone", "reap 9 -> -", "stop")
# One whose beginning of three pairs is possible, and the one of six and all longer ones are not.
BAD_LINES = ("lend 1", "quiet -> -", "reap 1 -> -", "put a nop", "quiet -> -", "reap 1 -> -", "give q b -> 0", "quiet -> -", "reap 2 -> -")


def session_of(*lines, setup=PQ):
    session = Session(setup_in(setup))
    for line in lines:
        session.add_line(line)
    return session


def answer(function, *given):
    """What a function returns or raises, with the values of the error."""
    try:
        return function(*given)
    except (ValueError, LookupError, RuntimeError) as error:
        return error.__class__, vars(error)


def told_by(session):
    """All that the queries of a Session tell, but for its log."""
    tags = [request[0] for event, _ in session.history() if event[0] == "put" for request in event[1]]
    return [
        session.history(), session.closed_part(), answer(session.verdict), session.first_bad(), session.operations(), len(session), repr(session),
        [answer(session.sure, ("user", 0), ("user", at)) for at in range(3)], [answer(session.because, tag) for tag in tags + ["zz"]],
        [session.as_of(many).history() for many in range(session.operations() + 1)], answer(session.as_of, session.operations() + 1)]


class ExampleTest(unittest.TestCase):
    def test_the_example_of_the_document(self):
        s = Session((2, 4, ("p",), ()))
        self.assertEqual((s.add(("give", "p", "a"), ("given", 0)), s.add_line("take p 1 -> 0 b"), s.closed_part(), s.first_bad(), repr(s)),
                         (1, 2, 0, None, "Session(2 pairs)"))
        self.assertEqual((s.add(("quiet",), ()), s.add(("reap", 1), ()), s.closed_part(), s.first_bad(), s.verdict()),
                         (3, 4, 4, 4, ("numbers", "letters", "p")))
        self.assertEqual((s.undo(), s.operations(), len(s.as_of(1)), s.log()[-2:]), (True, 3, 1, [("in", "undo"), ("out", "undo")]))
        with self.assertRaises(BadPair) as caught:
            s.add(("reap", 0), ())
        self.assertEqual(caught.exception.at, 3)
        with self.assertRaises(NotBare) as caught:
            s.play(())
        self.assertEqual(caught.exception.many, 3)


class OperationsTest(unittest.TestCase):
    def unchanged(self, session, error, values, name, *given):
        """The call of this method raises the error, and changes nothing but the log."""
        ahead = told_by(session)
        log = session.log()
        with self.subTest(name=name, given=given), self.assertRaises(error) as caught:
            getattr(session, name)(*given)
        self.assertEqual(vars(caught.exception), values)
        self.assertEqual(told_by(session), ahead)
        self.assertEqual(session.log(), log + [("in", name), ("out", name)])

    def test_a_new_one(self):
        session = Session((2, 4, ("p",), ()))
        self.assertEqual((session.history(), session.closed_part(), session.first_bad(), session.operations(), session.log(), len(session)), ((), 0, None, 0, [], 0))
        self.assertEqual(repr(session), "Session(0 pairs)")

    def test_add(self):
        setup = setup_in(PQ)
        history = history_in(setup, "\n".join(LINES))
        session = Session(setup)
        for at, (event, told) in enumerate(history):
            self.assertEqual(session.add(event, told), at + 1)
            self.assertEqual(repr(session.history()), repr(history[:at + 1]))
            self.assertEqual((session.operations(), len(session)), (at + 1, at + 1))
        self.assertEqual(session.log(), [("in", "add"), ("out", "add")] * len(history))

    def test_add_line(self):
        session = Session(setup_in(PQ))
        for at, line in enumerate(LINES):
            self.assertEqual(session.add_line(line), at + 1)
        self.assertEqual(history_text(session.history()), "\n".join(LINES))
        self.assertEqual(session.operations(), len(LINES))
        # There are no pairs for add.
        self.assertEqual(session.log(), [("in", "add_line"), ("out", "add_line")] * len(LINES))

    def test_bad_pairs(self):
        session = session_of(*LINES)
        many = {"at": len(LINES)}
        for event, told in (
                (("reap", 0), ()), (("stop",), None), (("quiet",), (("z", True, None),)), (("quiet",), None), (("clock", 5), ()), (("give", "z", "a"), ("given", 0)),
                (("put", (("r", ("nop",), ()),)), None), (("put", ()), None), (("put", (("x", ("nop",), ()),)), "late"), (("reap", 3), (("r", ("done",), None, False, False),)),
                (("take", "p", 1), ("0", "")), (("lend", 1), False), (None, None), ("quiet", ()), (7, 8), ((), ()), ((("quiet",),), ()), (("note", 0, 1), None)):
            self.unchanged(session, BadPair, many, "add", event, told)
        self.unchanged(Session(setup_in(PQ)), BadPair, {"at": 0}, "add", ("reap", True), ())

    def test_bad_lines(self):
        session = session_of(*LINES)
        for line in ("", " ", "quiet", "quiet -> - ", "clock 5 -> -", "clock 05", "reap 0 -> -", "note 0 1", "give p a", "give p A -> 0", "put", "put x", "put x nop |",
                     "quiet -> -\nquiet -> -", "clock 1\n", "lend 9999999999999", "judge"):
            self.unchanged(session, BadLine, {"number": 0}, "add_line", line)
        for line in ("stop", "put r nop", "give z a -> 0", "put x cancel y", "put x nop link", "put x nop silent hard", "reap 3 -> r done", "quiet -> z yes -", "take z 1 -> 0 -"):
            self.unchanged(session, BadPair, {"at": len(LINES)}, "add_line", line)

    def test_what_is_written_so_but_cannot_stand_there_is_added_elsewhere(self):
        self.assertEqual(Session(setup_in(PQ)).add_line("stop"), 1)
        self.assertEqual(session_of("clock 3").add_line("clock 4"), 2)
        self.unchanged(session_of("clock 3"), BadPair, {"at": 1}, "add_line", "clock 3")

    def test_numbers_that_do_not_fit_are_added(self):
        self.assertEqual(Session(setup_in(PQ)).add(("take", "p", 1), (7, "abc")), 1)

    def test_play(self):
        setup = setup_in(PQ)
        script = script_in(setup, "put a nop | b nop\nclock 1\nquiet\nreap 9\nreap 9")
        for choices in ((), [0, 2], [0, 9, 1, 2]):
            session = Session(setup)
            self.assertEqual(session.play(script, choices), 5)
            self.assertEqual(repr(session.history()), repr(run(setup, script, choices)))
            self.assertEqual((session.operations(), session.closed_part(), session.log()), (1, 5, [("in", "play"), ("out", "play")]))
        session = Session(setup)
        self.assertEqual(session.play(script), 5)
        self.assertEqual(session.history(), run(setup, script))
        # What follows is added as always.
        self.assertEqual(session.add_line("put c nop link | d nop"), 6)
        self.assertEqual((session.undo(), session.undo(), session.history(), session.undo()), (True, True, (), False))

    def test_play_of_no_events(self):
        session = Session(setup_in(PQ))
        self.assertEqual(session.play(()), 0)
        self.assertEqual((session.operations(), session.history()), (1, ()))
        # There are no pairs still.
        self.assertEqual(session.play((("lend", 1),)), 1)
        self.assertEqual((session.operations(), len(session), session.undo(), session.operations(), session.undo(), session.undo()), (2, 1, True, 1, True, False))

    def test_play_where_pairs_are(self):
        script = (("quiet",),)
        self.unchanged(session_of("lend 1"), NotBare, {"many": 1}, "play", script)
        self.unchanged(session_of(*LINES), NotBare, {"many": len(LINES)}, "play", script, [1])
        session = session_of("lend 1")
        session.undo()
        self.assertEqual(session.play(script), 1)

    def test_undo(self):
        session = session_of(*LINES)
        for many in range(len(LINES) - 1, -1, -1):
            self.assertIs(session.undo(), True)
            self.assertEqual((len(session), session.operations(), history_text(session.history())), (many, many, "\n".join(LINES[:many])))
        self.assertIs(session.undo(), False)
        self.assertIs(session.undo(), False)
        self.assertEqual(session.log()[-4:], [("in", "undo"), ("out", "undo")] * 2)
        self.assertEqual(session.operations(), 0)
        self.assertEqual(session, Session(setup_in(PQ)))

    def test_undo_of_each_operation(self):
        setup = setup_in(PQ)
        session = Session(setup)
        session.play(script_in(setup, "put a nop\nlend 2\nquiet"))
        session.add(("reap", 1), (("a", ("done",), None, False, False),))
        session.add_line("reap 1 -> -")
        self.assertEqual((session.closed_part(), session.operations()), (5, 3))
        self.assertEqual((session.undo(), len(session), session.closed_part()), (True, 4, 0))
        self.assertEqual((session.undo(), len(session)), (True, 3))
        self.assertEqual((session.undo(), len(session), session.operations()), (True, 0, 0))

    def test_the_tags_of_what_was_taken_back_are_free_again(self):
        session = session_of("put a nop", "stop")
        session.undo()
        session.undo()
        self.assertEqual([session.add_line(line) for line in ("stop", "put a nop -> stopped")], [1, 2])

    def test_failed_ones_are_no_operations(self):
        session = session_of("lend 1")
        for function, given in ((session.add, (("reap", 0), ())), (session.add_line, ("clock",)), (session.add_line, ("quiet -> z yes -",)), (session.play, ((),))):
            with self.assertRaises(ValueError):
                function(*given)
        self.assertEqual(session.operations(), 1)
        self.assertEqual((session.undo(), session.history(), session.undo()), (True, (), False))
        names = ["add_line", "add", "add_line", "add_line", "play", "undo", "undo"]
        self.assertEqual(session.log(), [(word, name) for name in names for word in ("in", "out")])


class QueriesTest(unittest.TestCase):
    def test_the_closed_beginning(self):
        session = Session(setup_in(PQ))
        found = []
        for line in LINES:
            session.add_line(line)
            found.append(session.closed_part())
        self.assertEqual(found, [0, 0, 0, 0, 5, 5, 5, 5, 9, 9])
        for many, closed in zip(range(len(LINES) - 1, -1, -1), found[-2::-1] + [0]):
            session.undo()
            self.assertEqual((len(session), session.closed_part()), (many, closed))

    def test_a_second_empty_reap_closes_nothing(self):
        session = session_of("quiet -> -", "reap 1 -> -", "reap 1 -> -")
        self.assertEqual((session.closed_part(), session.verdict()), (2, None))
        self.assertEqual(session_of("quiet -> -", "clock 1", "reap 1 -> -").closed_part(), 0)

    def test_verdict(self):
        session = session_of(*LINES)
        self.assertIsNone(session.verdict())
        self.assertIsNone(session.as_of(6).verdict())
        session = session_of(*BAD_LINES)
        self.assertEqual(session.verdict(), ("numbers", "end", "a"))
        self.assertIsNone(session.as_of(5).verdict())
        self.assertEqual(session.as_of(8).verdict(), ("numbers", "end", "a"))
        ring = session_of("put r read p 1", "reap 9 -> r text p 0 a", "give p a -> 0", "quiet -> -", "reap 9 -> -")
        self.assertEqual(ring.verdict(), ("ring", ((("end", "r"), "post"), (("post", 0), "reap"), (("user", 1), "user"), (("user", 2), "letter"))))

    def test_first_bad(self):
        self.assertIsNone(session_of(*LINES).first_bad())
        session = session_of(*BAD_LINES)
        self.assertEqual(session.first_bad(), 6)
        self.assertEqual([session.as_of(many).first_bad() for many in (5, 6, 7, 8, 9)], [None, 6, 6, 6, 6])
        # What is not closed is not looked at.
        self.assertIsNone(session_of("take p 1 -> 3 a", "quiet -> -").first_bad())

    def test_first_bad_of_many_histories(self):
        found = []
        for seed in range(60):
            maker = Maker(seed, 5)
            dice = Random(seed)
            session = Session(maker.setup)
            for event, told in maker.run(maker.script()).history():
                for other in (changed(dice, told) if dice.random() < 0.1 else told, told):
                    if answer(session.add, event, other).__class__ is int:
                        break
            history = session.history()
            closed = [many for many in range(len(history) + 1) if is_closed(history[:many])]
            bad = [many for many in closed if judge(maker.setup, history[:many]) is not None]
            self.assertEqual(session.closed_part(), max(closed, default=0))
            self.assertEqual(session.first_bad(), min(bad, default=None))
            # Each longer closed one is not possible either.
            self.assertEqual(bad, [many for many in closed if bad and many >= bad[0]])
            found += bad[:1]
        self.assertGreater(len(found), 5)

    def test_sure_and_because(self):
        setup = setup_in(PQ)
        session = session_of(*LINES)
        part = session.history()[:9]
        for one, other in ((("user", 0), ("end", "n")), (("begin", "r"), ("begin", "c")), (("begin", "s"), ("begin", "c")), (("post", 0), ("post", 1))):
            self.assertIs(session.sure(one, other), before(setup, part, one, other))
        self.assertIs(session.sure(["user", 1], ["end", "r"]), True)
        for tag in ("r", "n", "c"):
            self.assertEqual(repr(session.because(tag)), repr(because(setup, part, tag)))
        self.assertEqual(session.because("n"), [("begin", "n"), ("begin", "r"), ("end", "n"), ("end", "r"), ("user", 0), ("user", 1)])
        # Behind the closed beginning there are no steps.
        self.assertEqual(answer(session.sure, ("user", 8), ("user", 9)), (NoStep, {"which": ("user", 9)}))
        self.assertEqual(answer(session.because, "s"), (NoStep, {"which": ("end", "s")}))

    def test_errors(self):
        for session in (Session(setup_in(PQ)), session_of(*LINES[:4]), session_of("quiet -> -", "lend 1", "reap 1 -> -")):
            for function, given in ((session.verdict, ()), (session.sure, (("user", 9), ("user", 9))), (session.because, ("z",))):
                self.assertEqual(answer(function, *given), (NotClosed, {}))
        session = session_of(*BAD_LINES)
        self.assertEqual(answer(session.sure, ("user", 0), ("user", 99)), (NotPossible, {"reason": ("numbers", "end", "a")}))
        self.assertEqual(answer(session.because, "z"), (NoSums, {"word": "end", "what": "a"}))
        self.assertEqual(answer(session_of(*LINES).sure, ("user", 99), ("user", 98)), (NoStep, {"which": ("user", 99)}))

    def test_as_of(self):
        setup = setup_in(PQ)
        session = Session(setup)
        session.play(script_in(setup, "put a nop\nquiet\nreap 9\nreap 9"))
        session.add_line("lend 1")
        session.add(("clock", 3), None)
        self.assertEqual([len(session.as_of(many)) for many in range(4)], [0, 4, 5, 6])
        early = session.as_of(2)
        self.assertEqual((early.log(), early.operations(), early.history()), ([], 2, session.history()[:5]))
        self.assertEqual((early.undo(), len(early), early.undo(), len(early), early.undo()), (True, 4, True, 0, False))
        for many in (-1, -2, 4, 10 ** 6):
            ahead = told_by(session)
            self.assertEqual(answer(session.as_of, many), (NoOperation, {"many": many}))
            self.assertEqual(told_by(session), ahead)
        self.assertEqual(answer(Session(setup).as_of, 1), (NoOperation, {"many": 1}))
        # It is no operation.
        self.assertEqual([name for word, name in session.log() if word == "in"], ["play", "add_line", "add"])
        # Operations that were taken back are not counted.
        session.undo()
        self.assertEqual(answer(session.as_of, 3), (NoOperation, {"many": 3}))

    def test_copies_share_nothing(self):
        session = session_of(*LINES)
        copy = session.as_of(4)
        ahead = told_by(session)
        copy.undo()
        copy.add_line("stop")
        self.assertEqual(told_by(session), ahead)
        ahead = told_by(copy)
        session.undo()
        session.undo()
        session.add_line("lend 2")
        self.assertEqual(told_by(copy), ahead)
        self.assertEqual(len(copy.log()), 4)
        session.log().clear()
        session.log().append(1)
        self.assertEqual(session.log()[0], ("in", "add_line"))
        session.because("r").clear()
        self.assertEqual(len(session.because("r")), 4)

    def test_equality(self):
        session = session_of(*LINES)
        other = Session(setup_in(PQ))
        other.play(script_in(setup_in(PQ), "lend 1"))
        other.undo()
        self.assertNotEqual(session, other)
        for line in LINES:
            other.add_line(line)
        self.assertEqual(session, other)
        self.assertNotEqual(session.log(), other.log())
        other.undo()
        self.assertNotEqual(session, other)
        self.assertEqual(session.as_of(len(LINES) - 1), other)
        self.assertNotEqual(Session((2, 4, ("p",), ())), Session((3, 4, ("p",), ())))
        self.assertEqual(Session((2, 4, ("p",), ())), Session([2, 4, ["p"], []]))
        for thing in (None, 0, (), session.history(), "Session(0 pairs)", other.history()):
            self.assertFalse(Session((2, 4, ("p",), ())) == thing)
            self.assertTrue(session != thing)
        # One operation or several, if the pairs are the same.
        setup = setup_in(PQ)
        played = Session(setup)
        played.play(script_in(setup, "lend 1\nclock 2"))
        self.assertEqual(played, session_of("lend 1", "clock 2"))
        self.assertNotEqual(played.operations(), 2)

    def test_len_and_repr(self):
        self.assertEqual([(len(row), repr(row)) for row in (session_of("lend 1"), session_of(*LINES))], [(1, "Session(1 pairs)"), (10, "Session(10 pairs)")])


class SameStateTest(unittest.TestCase):
    """After any operations a Session answers as a new one in the same state."""

    def operate(self, session, dice, pairs):
        """One operation, which may fail; what it returns or raises."""
        at = len(session)
        event, told = pairs[at % len(pairs)]
        way = dice.random()
        if way < 0.35:
            return answer(session.add, event, told)
        if way < 0.6:
            return answer(session.add_line, history_text(((event, told),)))
        if way < 0.8:
            return answer(session.undo)
        if way < 0.85:
            return answer(session.play, tuple(event for event, _ in pairs[:dice.randrange(4)]))
        if way < 0.95:
            return answer(session.add, event, changed(dice, told))
        return answer(session.add_line, "quiet ->")

    def test_it(self):
        for seed in range(40):
            maker = Maker(seed, 4)
            dice = Random(seed)
            pairs = maker.run(maker.script()).history()
            session = Session(maker.setup)
            for number in range(25):
                self.operate(session, dice, pairs)
                new = Session(maker.setup)
                for event, told in session.history():
                    new.add(event, told)
                self.assertEqual(session, new)
                copy = session.as_of(session.operations())
                for other in (new, copy):
                    self.assertEqual(told_by(other)[:4], told_by(session)[:4])
                    self.assertEqual(told_by(other)[5:9], told_by(session)[5:9])
                self.assertEqual(told_by(copy), told_by(session))
                # They go on in the same way.
                self.assertEqual(self.operate(copy, Random(number), pairs), self.operate(session.as_of(session.operations()), Random(number), pairs))


class ArgumentsTest(unittest.TestCase):
    def test_lists_and_names_of_arguments(self):
        setup = setup_in(PQ)
        history = history_in(setup, "\n".join(LINES))
        given = [as_lists(setup), as_lists(history)]
        copies = deepcopy(given)
        session = Session(given[0])
        for event, told in given[1]:
            session.add(event, told)
        self.assertEqual(repr(session.history()), repr(history))
        self.assertEqual(session.because(tag="r"), because(setup, history[:9], "r"))
        self.assertEqual(given, copies)
        # It has copies of its own.
        given[0][2].append("z")
        given[1][0][0][1].clear()
        self.assertEqual(repr(session.history()), repr(history))
        self.assertEqual(answer(session.add, ("give", "z", "a"), ("given", 0)), (BadPair, {"at": len(history)}))
        self.assertIs(session.sure(other=("user", 1), one=("user", 0)), True)
        self.assertEqual(session.as_of(many=2).add(told=(), event=("quiet",)), 3)
        self.assertEqual(session.as_of(2).add_line(line="quiet -> -"), 3)
        script = script_in(setup, "put a nop | b nop\nquiet\nreap 9")
        lists = [as_lists(script), [0, 2]]
        played = Session(setup=setup)
        self.assertEqual(played.play(choices=lists[1], script=lists[0]), 3)
        self.assertEqual(lists, [as_lists(script), [0, 2]])
        self.assertEqual(repr(played.history()), repr(run(setup, script, [0, 2])))


if __name__ == "__main__":
    unittest.main()
