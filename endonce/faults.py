"""Why an event cannot stand behind those ahead of it: the words of BadEvent."""

from endonce.forms import is_pipe, is_slot
from endonce.requests import are_flags, stands_well, where_of


def pipes_of(deed):
    """The pipes that a DEED names."""
    if deed[0] == "update":
        return [] if deed[2] is None else [deed[2]]
    where = where_of(deed)
    return [] if where is None or where[0] == "slot" else [where[1]]


def slots_of(deed):
    """The slots that a DEED names."""
    if deed[0] == "update":
        return [deed[1]]
    where = where_of(deed)
    return [] if where is None or where[0] == "pipe" else [where[1]]


def fault_of_request(setup, ahead, lot, at):
    """The first word for the request at this place of a lot; None if nothing is wrong with it."""
    tag, deed, flags = lot[at]
    here = [request[0] for request in lot[:at]]
    if tag in ahead.tags or tag in here:
        return "tag"
    if not are_flags(deed, flags):
        return "flags"
    # What stands ahead in the lot was looked at before, so chains can be read off it.
    if not stands_well(lot, at):
        return "chain"
    if not all([is_pipe(setup, pipe) for pipe in pipes_of(deed)]):
        return "pipe"
    if not all([is_slot(setup, slot) for slot in slots_of(deed)]):
        return "slot"
    if deed[0] == "cancel" and deed[1] not in ahead.tags and deed[1] not in here:
        return "cancel"
    return None


def fault_of(setup, ahead, event):
    """The first word for this EVENT, which is written well; None if it can stand there."""
    word = event[0]
    if word == "put":
        for at in range(len(event[1])):
            fault = fault_of_request(setup, ahead, event[1], at)
            if fault is not None:
                return fault
    if word in ("give", "take") and not is_pipe(setup, event[1]):
        return "pipe"
    if word == "clock" and event[1] <= ahead.latest:
        return "clock"
    if word == "stop" and ahead.stopped:
        return "stop"
    return None
