"""Rows of sums about who began, and the turns at which they looked: what does not hold."""

from endonce.asked import AT_ONCE
from endonce.requests import where_of
from endonce.results import PARTS


def bad_begins(facts):
    """Tags of requests of which it is not told well whether they had begun."""
    return [one.tag for one in facts.asked.values() if not begins_well(facts, one)]


def begins_well(facts, one):
    """Whether all that tells of this request's begin fits together."""
    tellings = facts.tellings[one.tag]
    if True in tellings and False in tellings[tellings.index(True):]:
        return False
    word = one.deed[0]
    tables = [table for table in facts.tables.values() if one.tag in table]
    if word in AT_ONCE and any([table[one.tag][0] for table in tables]):
        return False
    if word in AT_ONCE or word == "work":
        end = facts.ends.get(one.tag, ("",))
        return end[0] not in ("cancelled", "stopped") or not end[-1]
    return word != "linktimeout" or times_well(facts, one, tables)


def times_well(facts, one, tables):
    """Whether this linktimeout is told as its request is, in these tables too."""
    if facts.began(one.tag) and not facts.began(one.owner):
        return False
    return all([one.owner in table and table[one.owner][0] == table[one.tag][0] for table in tables])


def bad_slots(facts):
    """Slots whose turns, or those that looked at them, are not told well."""
    return [slot for slot in range(len(facts.slots)) if not turns_well(facts, slot)]


def turns_well(facts, slot):
    """Whether all that tells of the turns of this slot fits together."""
    numbers = sorted([number for number, _ in facts.updates_of(slot)])
    if numbers != list(range(1, len(numbers) + 1)):
        return False
    rows = [one for one in facts.asked.values() if where_of(one.deed) == ("slot", slot)]
    return all([looks_well(facts, one.tag, slot) for one in rows])


def looks_well(facts, tag, slot):
    """Whether this request, whose where is the slot, looked at one turn, which has the pipe that it tells."""
    if tag not in facts.looked:
        return True
    turn = facts.looked[tag]
    told = [table[tag][1] for table in facts.tables.values() if tag in table]
    told += [completion[2] for completion in facts.told[tag]]
    if turn not in facts.turns[slot] or not all([other in (turn, None) for other in told]):
        return False
    pipe = facts.turns[slot][turn]
    results = [completion[1] for completion in facts.told[tag]]
    if not all([result[1] == pipe for result in results if PARTS[result[0]][:1] == ("pipe",)]):
        return False
    return (pipe is None) == (facts.word_of_end(tag) == "bare")
