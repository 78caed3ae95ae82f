"""Sessions: a HISTORY that grows pair by pair, what can be told of its closed beginnings, and operations taken back."""

from endonce.because import because
from endonce.data import closed_many, is_closed, is_history
from endonce.errors import BadPair, NoOperation, NotBare
from endonce.judge import before, judge
from endonce.reading import pair_in
from endonce.runs import run
from endonce.tuples import in_tuples


class Session:
    """A HISTORY without pairs, and the operations that will let it grow."""

    def __init__(self, setup):
        self._setup = in_tuples(setup)
        self._pairs = ()
        # Of each operation in effect, how many pairs there were behind it.
        self._marks = []
        self._calls = []

    def __eq__(self, other):
        return isinstance(other, Session) and self._setup == other._setup and self._pairs == other._pairs

    def __len__(self):
        return len(self._pairs)

    def __repr__(self):
        return f"Session({len(self._pairs)} pairs)"

    def add(self, event, told):
        """Add a pair, and return how many there are then."""
        self._calls.append(("in", "add"))
        try:
            return self._with_pair((event, told))
        finally:
            self._calls.append(("out", "add"))

    def add_line(self, line):
        """Add the pair that this line tells, and return how many there are then."""
        self._calls.append(("in", "add_line"))
        try:
            return self._with_pair(pair_in(0, line))
        finally:
            self._calls.append(("out", "add_line"))

    def play(self, script, choices=()):
        """Add all pairs of a run, which must be the first ones, and return how many there are."""
        self._calls.append(("in", "play"))
        try:
            return self._with_run(script, choices)
        finally:
            self._calls.append(("out", "play"))

    def undo(self):
        """Take back the last operation in effect, and return whether there was one."""
        self._calls.append(("in", "undo"))
        found = len(self._marks) > 0
        if found:
            self._marks.pop()
            self._pairs = self._pairs[:self._pairs_behind(len(self._marks))]
        self._calls.append(("out", "undo"))
        return found

    def history(self):
        """The HISTORY."""
        return self._pairs

    def closed_part(self):
        """The number of pairs of the longest closed beginning; 0 if there is none."""
        return closed_many(self._pairs)

    def verdict(self):
        """What judge tells of the longest closed beginning."""
        return judge(self._setup, self._closed())

    def first_bad(self):
        """The least number of pairs with which a beginning is closed and not possible; None if there is none."""
        for many in range(1, len(self._pairs) + 1):
            part = self._pairs[:many]
            if is_closed(part) and judge(self._setup, part) is not None:
                return many
        return None

    def sure(self, one, other):
        """Whether in the longest closed beginning the step one must come before the step other."""
        return before(self._setup, self._closed(), one, other)

    def because(self, tag):
        """The steps that were needed for the end of this request in the longest closed beginning."""
        return because(self._setup, self._closed(), tag)

    def operations(self):
        """How many operations are in effect."""
        return len(self._marks)

    def as_of(self, many):
        """A new Session in the state after the first so many operations in effect."""
        if many < 0 or many > len(self._marks):
            raise NoOperation(many)
        session = Session(self._setup)
        session._pairs = self._pairs[:self._pairs_behind(many)]
        session._marks = self._marks[:many]
        return session

    def log(self):
        """The begins and the ends of all calls of operations."""
        return list(self._calls)

    def _with_pair(self, pair):
        """Add this pair as one operation."""
        pairs = (*self._pairs, in_tuples(pair))
        if not is_history(self._setup, pairs):
            raise BadPair(len(self._pairs))
        return self._keep(pairs)

    def _with_run(self, script, choices):
        """Add all pairs of this run as one operation."""
        if len(self._pairs) > 0:
            raise NotBare(len(self._pairs))
        return self._keep(run(self._setup, script, choices))

    def _keep(self, pairs):
        """Let the HISTORY have these pairs by another operation."""
        self._pairs = pairs
        self._marks.append(len(pairs))
        return len(pairs)

    def _pairs_behind(self, many):
        """How many pairs there were behind the first so many operations in effect."""
        return self._marks[many - 1] if many > 0 else 0

    def _closed(self):
        """The longest closed beginning; without pairs, and so not closed, if there is none."""
        return self._pairs[:self.closed_part()]
