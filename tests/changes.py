"""Histories that are changed a little, most of which no run gives."""


def with_told(history, at, told):
    """The same history, but for what the pair number at is told."""
    return history[:at] + ((history[at][0], told),) + history[at + 1:]


def crossed(dice, histories, many):
    """Histories with what one pair was told in another history, or with one thing told in another way."""
    for _ in range(many):
        history = dice.choice(histories)
        at = dice.randrange(len(history))
        others = [other[at][1] for other in histories if len(other) > at and other[at][0] == history[at][0]]
        yield with_told(history, at, dice.choice(others))
        yield with_told(history, at, changed(dice, history[at][1]))


def changed(dice, told):
    """What is told with one change in it: a part left out, exchanged with the next one, or another truth or number."""
    if told is True or told is False:
        return not told
    if isinstance(told, int):
        return told + dice.choice((-1, 1))
    if not isinstance(told, tuple) or not told:
        return told
    at = dice.randrange(len(told))
    way = dice.randrange(5)
    if way == 0:
        return told[:at] + told[at + 1:]
    if way == 1:
        return told[:at] + told[at:at + 2][::-1] + told[at + 2:]
    return told[:at] + (changed(dice, told[at]),) + told[at + 1:]
