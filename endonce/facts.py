"""What a closed history tells, by its requests, its tables and its completions."""

from endonce.asked import asked_in
from endonce.data import is_closed
from endonce.errors import NotClosed
from endonce.requests import where_of
from endonce.tuples import in_tuples


class Facts:
    """All that a closed HISTORY tells of the requests that were put."""

    def __init__(self, setup, history):
        self.space, self.room, self.pipes, self.slots = in_tuples(setup)
        self.pairs = in_tuples(history)
        # The requests that were put, by their tags, in order.
        self.asked = {}
        # The completions in the order in which they are told.
        self.completions = []
        # By tags: their completions; the results of their ends; the indexes of the events that told these; whether
        # they had begun, each time that this is told.
        self.told = {}
        self.ends = {}
        self.ended_at = {}
        self.tellings = {}
        # By the indexes of the quiets: the pairs (begun, turn) by tags.
        self.tables = {}
        # The last one of these.
        self.last = {}
        # By tags: the turns at which they looked.
        self.looked = {}
        for at, (event, told) in enumerate(self.pairs):
            self.note(at, event, told)
        for one in self.asked.values():
            if self.is_untold(one):
                self.ends[one.tag] = ("done",)
        # By slots: the pipes of their turns.
        self.turns = [self.turns_of(slot) for slot in range(len(self.slots))]

    def note(self, at, event, told):
        """Note the pair number at."""
        if event[0] == "put" and told is None:
            for tag, one in asked_in(event[1], at, len(self.asked)).items():
                self.asked[tag] = one
                self.told[tag] = []
                self.tellings[tag] = []
        elif event[0] == "quiet":
            self.last = {tag: (begun, turn) for tag, begun, turn in told}
            self.tables[at] = self.last
            for tag, begun, turn in told:
                self.tellings[tag].append(begun)
                self.note_turn(tag, turn)
        elif event[0] == "reap":
            for completion in told:
                self.completions.append(completion)
                if isinstance(completion[0], str):
                    self.note_completion(at, completion)

    def note_turn(self, tag, turn):
        """Note a turn that is told of this request, if it is one."""
        if turn is not None:
            self.looked[tag] = turn

    def note_completion(self, at, completion):
        """Note a completion of a request, told by the pair number at."""
        tag, result, turn, more, _ = completion
        self.told[tag].append(completion)
        self.note_turn(tag, turn)
        if result[0] != "off":
            self.tellings[tag].append(tells_begun(result))
        if not more:
            self.ends[tag] = result
            self.ended_at[tag] = at

    def is_untold(self, one):
        """Whether this is a silent request of which nothing is told, and which does not stay."""
        return "silent" in one.flags and len(self.told[one.tag]) == 0 and one.tag not in self.last

    def turns_of(self, slot):
        """The pipes of the turns of this slot, by their numbers."""
        turns = {0: self.slots[slot]}
        for number, pipe in self.updates_of(slot):
            turns[number] = pipe
        return turns

    def updates_of(self, slot):
        """The pairs (number, pipe) of the turns that updates of this slot tell."""
        rows = []
        for one in self.asked.values():
            if one.deed[0] == "update" and one.deed[1] == slot and self.ends.get(one.tag, ("",))[0] == "turn":
                rows.append((self.ends[one.tag][1], one.deed[2]))
        return rows

    def began(self, tag):
        """Whether it is told that this request began, or it ended untold."""
        return any(self.tellings[tag]) or self.is_untold(self.asked[tag])

    def word_of_end(self, tag):
        """The word of the result with which this request ended; "" if it has not."""
        return self.ends[tag][0] if tag in self.ends else ""

    def pipe_of(self, tag):
        """The pipe of a request with a where; None if it is not known, or there is none."""
        kind, place = where_of(self.asked[tag].deed)
        if kind == "pipe":
            return place
        return self.turns[place].get(self.looked[tag]) if tag in self.looked else None

    def lockers_of(self, pipe):
        """The tags of the shuts that ended with "done" of this pipe."""
        rows = [one.tag for one in self.asked.values() if one.deed[0] == "shut"]
        return [tag for tag in rows if self.word_of_end(tag) == "done" and self.pipe_of(tag) == pipe]

    def time_at(self, at):
        """The clock ahead of the pair number at."""
        times = [event[1] for event, _ in self.pairs[:at] if event[0] == "clock"]
        return times[-1] if len(times) > 0 else 0


def closed_facts(setup, history):
    """The facts of a HISTORY, which must be closed."""
    if not is_closed(history):
        raise NotClosed()
    return Facts(setup, history)


def tells_begun(result):
    """Whether this result, not "off", tells that its request had begun."""
    if result[0] in ("cancelled", "stopped"):
        return result[-1]
    return result[0] != "broken"
