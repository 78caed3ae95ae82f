"""The errors of the package, each with its values as attributes."""

from endonce.tuples import in_tuples


class BadLine(ValueError):
    """A line of a text is not written as such a line must be."""

    def __init__(self, number):
        ValueError.__init__(self, f"line {number} is not written so")
        self.number = number


class BadEvent(ValueError):
    """An event cannot stand behind those ahead of it."""

    def __init__(self, number, word):
        ValueError.__init__(self, f"event {number} cannot stand there: {word}")
        self.number = number
        self.word = word


class BadPair(ValueError):
    """A pair, or a user event, cannot be the next one."""

    def __init__(self, at):
        ValueError.__init__(self, f"this cannot be the number {at}")
        self.at = at


class NotClosed(ValueError):
    """A history is not closed."""


class NotBare(ValueError):
    """A session already has pairs."""

    def __init__(self, many):
        ValueError.__init__(self, f"there are {many} pairs already")
        self.many = many


class NoSums(ValueError):
    """The numbers of a history do not fit together."""

    def __init__(self, word, what):
        ValueError.__init__(self, f"{word} does not fit: {what}")
        self.word = word
        self.what = in_tuples(what)


class NotPossible(ValueError):
    """No ring can give a history."""

    def __init__(self, reason):
        ValueError.__init__(self, f"not possible: {reason}")
        self.reason = in_tuples(reason)


class NotOrder(ValueError):
    """Pairs are no strict order, because of this pair."""

    def __init__(self, pair):
        ValueError.__init__(self, f"no strict order: {pair}")
        self.pair = in_tuples(pair)


class NoLot(ValueError):
    """No lot has this order, because of these four tags."""

    def __init__(self, four):
        ValueError.__init__(self, f"no lot orders these so: {four}")
        self.four = in_tuples(four)


class NoStep(LookupError):
    """There is no such step."""

    def __init__(self, which):
        LookupError.__init__(self, f"no such step: {which}")
        self.which = in_tuples(which)


class NoTag(LookupError):
    """No request has this tag."""

    def __init__(self, tag):
        LookupError.__init__(self, f"no request has the tag {tag}")
        self.tag = tag


class NoOperation(LookupError):
    """There are not so many operations."""

    def __init__(self, many):
        LookupError.__init__(self, f"there are no {many} operations")
        self.many = many


class NotQuiet(RuntimeError):
    """Steps are still possible."""

    def __init__(self, steps):
        RuntimeError.__init__(self, f"still possible: {steps}")
        self.steps = [in_tuples(step) for step in steps]


class TooMany(OverflowError):
    """There are more than this many."""

    def __init__(self, many):
        OverflowError.__init__(self, f"there are more than {many}")
        self.many = many
