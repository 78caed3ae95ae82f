"""The lines of texts: which event, and what told, is written there; BadLine if it is not written so."""

from endonce.data import EVENTS
from endonce.errors import BadLine
from endonce.kinds import is_name
from endonce.requests import DEEDS
from endonce.results import PARTS
from endonce.words import Words
from endonce.writing import NOTHING

ARROW = " -> "
FLAGS = ("drain", "hard", "link", "pick", "silent")


def part_in(words, kind):
    """The part of this kind, of an event, a deed or a result, that comes next."""
    match kind:
        case "good":
            return words.next_truth("good", "bad")
        case "truth":
            return words.next_truth("yes", "no")
        case "from 0" | "slot":
            return words.next_number(0)
        case "from 1":
            return words.next_number(1)
        case "name" | "pipe":
            return words.next_name()
        case "text":
            return words.next_text()
        case "letters":
            return words.next_letters()
        case "pipe or none":
            return name_or_none_in(words)
        case "where":
            return where_in(words)
        case "taken":
            return taken_in(words)
        case _:
            assert kind == "names"
            return names_in(words)


def name_or_none_in(words):
    """The NAME that comes next, or None."""
    if words.peek() == NOTHING:
        words.next_word()
        return None
    return words.next_name()


def where_in(words):
    """The where that comes next."""
    if words.peek().startswith("#"):
        return ("slot", words.next_signed())
    return ("pipe", words.next_name())


def taken_in(words):
    """The pairs (tag, begun) that come next, with the stroke behind them."""
    pairs = []
    while words.peek() != "/":
        tag = words.next_name()
        pairs.append((tag, words.next_truth("yes", "no")))
    words.next_word()
    return tuple(pairs)


def names_in(words):
    """All NAMEs that come next."""
    names = []
    while is_name(words.peek()):
        names.append(words.next_word())
    return tuple(names)


def parts_in(words, kinds):
    """The parts of these kinds that come next."""
    return [part_in(words, kind) for kind in kinds]


def request_in(number, text):
    """The REQUEST with this text; its flags may be any of the five, in any order."""
    words = Words(number, text)
    tag = words.next_name()
    deed = words.next_word()
    words.expect(deed in DEEDS)
    parts = parts_in(words, DEEDS[deed])
    flags = words.rest()
    words.expect(all([flag in FLAGS for flag in flags]))
    return (tag, (deed, *parts), tuple(flags))


def event_in(number, line):
    """The EVENT with this line; whether it can stand there is not looked at."""
    word, _, rest = line.partition(" ")
    if word == "put":
        return ("put", tuple([request_in(number, text) for text in rest.split(" | ")]))
    words = Words(number, line)
    word = words.next_word()
    words.expect(word in EVENTS)
    parts = parts_in(words, EVENTS[word])
    words.finish()
    return (word, *parts)


def result_in(words):
    """The result that comes next."""
    word = words.next_word().replace("-", " ")
    words.expect(word in PARTS)
    return (word, *parts_in(words, PARTS[word]))


def sign_in(words, sign):
    """Whether this sign comes next; it is then read."""
    if words.peek() != sign:
        return False
    words.next_word()
    return True


def completion_in(number, text):
    """The COMPLETION with this text, with a result of any name."""
    words = Words(number, text)
    name = words.next_signed() if words.peek().startswith("#") else words.next_name()
    result = result_in(words)
    turn = words.next_signed() if words.peek().startswith("@") else None
    more = sign_in(words, "+")
    kept = sign_in(words, "!")
    words.finish()
    return (name, result, turn, more, kept)


def unended_in(number, text):
    """The triple of a quiet with this text."""
    words = Words(number, text)
    tag = words.next_name()
    begun = words.next_truth("yes", "no")
    turn = None if sign_in(words, NOTHING) else words.next_number(0)
    words.finish()
    return (tag, begun, turn)


def given_in(number, text):
    """What a give was told, with this text."""
    words = Words(number, text)
    told = ("shut", words.next_name()) if sign_in(words, "shut") else ("given", words.next_number(0))
    words.finish()
    return told


def took_in(number, text):
    """What a take was told, with this text."""
    words = Words(number, text)
    place = words.next_number(0)
    letters = "" if sign_in(words, NOTHING) else words.next_letters()
    words.finish()
    return (place, letters)


def put_word_in(number, text):
    """The word that a put was told, with this text."""
    if text not in ("busy", "stopped"):
        raise BadLine(number)
    return text


def told_in(number, event, text):
    """What this EVENT was told, with this text behind the arrow."""
    match event[0]:
        case "put":
            return put_word_in(number, text)
        case "give":
            return given_in(number, text)
        case "take":
            return took_in(number, text)
        case "quiet":
            return () if text == NOTHING else tuple([unended_in(number, row) for row in text.split(" ; ")])
        case "reap":
            return () if text == NOTHING else tuple([completion_in(number, row) for row in text.split(" ; ")])
        case _:
            raise BadLine(number)


def pair_in(number, line):
    """The pair of a HISTORY with this line; whether it can stand there is not looked at."""
    start, arrow, end = line.partition(ARROW)
    event = event_in(number, start)
    if arrow != "":
        return (event, told_in(number, event, end))
    if event[0] in ("give", "take", "quiet", "reap"):
        raise BadLine(number)
    return (event, None)
