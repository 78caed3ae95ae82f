"""Texts of SETUPs, SCRIPTs and HISTORYs, and what has such a text."""

from endonce.ahead import Ahead
from endonce.data import is_setup
from endonce.errors import BadEvent, BadLine
from endonce.faults import fault_of
from endonce.reading import event_in, pair_in
from endonce.told import is_told
from endonce.tuples import in_tuples
from endonce.words import Words
from endonce.writing import NOTHING, event_text, pair_text


def setup_text(setup):
    """The text of a SETUP."""
    space, room, pipes, slots = setup
    entries = [NOTHING if entry is None else entry for entry in slots]
    return " ".join(["ring", str(space), str(room), "pipes", *pipes, "slots", *entries])


def script_text(script):
    """The text of a SCRIPT, a line for each EVENT."""
    return "\n".join([event_text(event) for event in in_tuples(script)])


def history_text(history):
    """The text of a HISTORY, a line for each EVENT."""
    return "\n".join([pair_text(pair) for pair in in_tuples(history)])


def setup_in(text):
    """The SETUP that has this text."""
    words = Words(0, text)
    words.expect(words.next_word() == "ring")
    space = words.next_number(1)
    room = words.next_number(1)
    words.expect(words.next_word() == "pipes")
    rest = words.rest()
    # A pipe may have the name "slots", too; for one place at most this gives a SETUP.
    for at in range(len(rest)):
        entries = [None if word == NOTHING else word for word in rest[at + 1:]]
        setup = (space, room, tuple(rest[:at]), tuple(entries))
        if rest[at] == "slots" and is_setup(setup):
            return setup
    raise BadLine(0)


def lines_of(text):
    """The lines of a text; the empty text has none."""
    return [] if text == "" else text.split("\n")


def script_in(setup, text):
    """The SCRIPT that has this text."""
    events = [event_in(number, line) for number, line in enumerate(lines_of(text))]
    ahead = Ahead()
    for number, event in enumerate(events):
        fault = fault_of(setup, ahead, event)
        if fault is not None:
            raise BadEvent(number, fault)
        ahead.note_event(event)
    return tuple(events)


def history_in(setup, text):
    """The HISTORY that has this text."""
    pairs = pairs_in(lines_of(text), 0)
    expect_history(setup, pairs, 0)
    return pairs


def pairs_in(lines, first):
    """The pairs that these lines tell, the first of which has the number first; they need not fit together."""
    return tuple([pair_in(first + at, line) for at, line in enumerate(lines)])


def expect_history(setup, pairs, first):
    """Refuse the first of these pairs that cannot stand there; the first of all is told by the line number first."""
    ahead = Ahead()
    for at, (event, told) in enumerate(pairs):
        fault = fault_of(setup, ahead, event)
        if fault is None and not is_told(setup, ahead, event, told):
            fault = "told"
        if fault is not None:
            raise BadEvent(first + at, fault)
        ahead.note_event(event)
        ahead.note_told(event, told)
