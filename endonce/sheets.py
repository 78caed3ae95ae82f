"""Sheets: texts of a SETUP, a HISTORY and requests about these."""

from endonce.data import closed_many, script_of
from endonce.errors import BadLine
from endonce.reading import parts_in
from endonce.texts import expect_history, pairs_in, setup_in
from endonce.words import Words

# What stands behind the words of requests, and behind those of steps.
REQUESTS = {
    "judge": (),
    "order": (),
    "sure": ("step", "step"),
    "because": ("tag",),
    "node": ("step",),
    "runs": (),
    "fates": ("tag",),
    "standing": (),
    "show": (),
}
STEPS = {
    "user": ("from 0",),
    "begin": ("name",),
    "fire": ("name", "from 0"),
    "end": ("name",),
    "free": ("slot", "from 0"),
    "post": ("from 0",),
}


class Sheet:
    """What a sheet says: a SETUP, a HISTORY, and requests as tuples of a word and what stands behind it."""

    def __init__(self, setup, history, requests):
        self.setup = setup
        self.pairs = history
        self.requests = requests
        self.script = script_of(history)
        # The longest closed beginning; without pairs, and so not closed, if there is none.
        self.part = history[:closed_many(history)]


def sheet_in(text):
    """The Sheet with this text."""
    lines = text.split("\n")
    setup = setup_in(lines[0])
    cut = lines.index("", 1) if "" in lines[1:] else len(lines)
    pairs = pairs_in(lines[1:cut], 1)
    first = cut + 1
    requests = [request_in(first + at, line) for at, line in enumerate(lines[first:])]
    expect_history(setup, pairs, 1)
    return Sheet(setup, pairs, requests)


def request_in(number, line):
    """The request that this line tells."""
    word, blank, rest = line.partition(" ")
    texts = rest.split(", ") if blank != "" else []
    if word not in REQUESTS or len(texts) != len(REQUESTS[word]):
        raise BadLine(number)
    return (word, *[given_in(number, text, kind) for text, kind in zip(texts, REQUESTS[word])])


def given_in(number, text, kind):
    """The step or the tag with this text."""
    words = Words(number, text)
    given = words.next_name() if kind == "tag" else step_in(words)
    words.finish()
    return given


def step_in(words):
    """The step that comes next."""
    word = words.next_word()
    words.expect(word in STEPS)
    return (word, *parts_in(words, STEPS[word]))
