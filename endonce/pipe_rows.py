"""Rows of sums about letters, turns that are freed, and buffers: what does not hold."""

from endonce.pieces import given_pieces, letters_of, taken_pieces
from endonce.requests import where_of


def bad_letters(facts):
    """Pipes whose letters are not told well."""
    return [pipe for pipe in facts.pipes if not letters_well(facts, pipe)]


def letters_well(facts, pipe):
    """Whether the letters of this pipe that were given and taken fit together."""
    givers = given_pieces(facts, pipe)
    takers = taken_pieces(facts, pipe)
    given = sorted(letters_of(givers))
    taken = sorted(letters_of(takers))
    if [place for place, _ in given] != list(range(len(given))) or taken != given[:len(taken)]:
        return False
    if not all([len(text) <= many for _, text, many, _ in takers]):
        return False
    # A take of "" can be at no place that is not taken up to there, nor can what needs all letters ahead.
    if not all([place <= len(taken) for place, text, _, _ in takers if text == ""]):
        return False
    for place, text, step in givers:
        if step[0] == "end" and place + len(text) - facts.room > len(taken):
            return False
    return all([is_place_well(result, pipe, len(given), len(taken)) for result in facts.ends.values()])


def is_place_well(result, pipe, given, taken):
    """Whether the place that this result tells, if it ended at the pipe's letters, can be such a one."""
    if result[0] == "end" and result[1] == pipe:
        return result[2] == given == taken
    if result[0] == "no buffer" and result[1] == pipe:
        return result[2] < given and result[2] <= taken
    return True


def bad_freed(facts):
    """Slots of which not just the turns are told that must be freed."""
    return [slot for slot in range(len(facts.slots)) if freed_of(facts, slot) != free_of(facts, slot)]


def freed_of(facts, slot):
    """The turns of this slot that are told as freed."""
    return sorted([completion[1][1] for completion in facts.completions if completion[0] == slot])


def free_of(facts, slot):
    """The turns of this slot that must be freed."""
    turns = facts.turns[slot]
    rows = [tag for tag in facts.last if where_of(facts.asked[tag].deed) == ("slot", slot)]
    # The last table alone may not tell the turn that a completion or an earlier table does.
    held = [facts.looked[tag] for tag in rows if tag in facts.looked]
    return [number for number in range(len(turns) - 1) if turns[number] is not None and number not in held]


def bad_buffers(facts):
    """Numbers of buffers, and of lent ones, that are not told well."""
    sums = [0]
    for event, _ in facts.pairs:
        if event[0] == "lend":
            sums.append(sums[-1] + event[1])
    results = [completion[1] for completion in facts.completions]
    used = [result[4] for result in results if result[0] == "picked"]
    lents = [result[3] for result in results if result[0] == "no buffer"]
    bad = [number for number in used if used.count(number) > 1 or number >= sums[-1]]
    bad += [number for number in range(max(used, default=0)) if number not in used]
    return bad + [lent for lent in lents if lent not in sums or lent > len(used)]
