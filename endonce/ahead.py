"""What stands ahead of an event: all that decides whether it can stand there."""

from endonce.results import key_of


class Ahead:
    """The beginning of a SCRIPT or a HISTORY, as far as the next pair depends on it."""

    def __init__(self):
        self.tags = {}
        self.requests = {}
        self.ended = {}
        self.latest = 0
        self.stopped = False

    def allows(self, event):
        """Whether this EVENT can be the next one."""
        if event[0] == "put":
            return self.allows_lot(event[1])
        if event[0] == "clock":
            return event[1] > self.latest
        return event[0] != "stop" or not self.stopped

    def allows_lot(self, lot):
        """Whether the tags of this LOT are new, and its cancels name what stands ahead of them."""
        here = {}
        for tag, deed, _ in lot:
            if tag in self.tags:
                return False
            if deed[0] == "cancel" and deed[1] not in self.tags and deed[1] not in here:
                return False
            here[tag] = True
        return True

    def allows_ends(self, completions):
        """Whether none of these, told one behind the other, stands behind an end of the same name."""
        here = {}
        for completion in completions:
            key = key_of(completion)
            if key in self.ended or key in here:
                return False
            if not completion[3]:
                here[key] = True
        return True

    def note_event(self, event):
        """Let this EVENT stand ahead of the next one."""
        if event[0] == "put":
            for request in event[1]:
                self.tags[request[0]] = True
        elif event[0] == "clock":
            self.latest = event[1]
        elif event[0] == "stop":
            self.stopped = True

    def note_told(self, event, told):
        """Let what this EVENT was told stand ahead of the next one."""
        if event[0] == "put" and told is None:
            for request in event[1]:
                self.requests[request[0]] = request
        elif event[0] == "reap":
            for completion in told:
                if not completion[3]:
                    self.ended[key_of(completion)] = True


def twin_ahead(ahead):
    """The same beginning once more, sharing nothing with this one that changes."""
    twin = Ahead()
    twin.tags = dict(ahead.tags)
    twin.requests = dict(ahead.requests)
    twin.ended = {key: True for key in ahead.ended}
    twin.latest = ahead.latest
    twin.stopped = ahead.stopped
    return twin
