"""What several test files share: values of other kinds, spoiled values, and a strict asking."""

from copy import deepcopy

SETUP = (2, 6, ("p", "q"), (None, "p"))

DEEP = "a"
for _ in range(19):
    DEEP = (DEEP,)

# Values that are no SETUP, no LOT, no SCRIPT and no HISTORY, nor a part of one where a tuple is described.
ODD = (
    None, True, False, 0, 1, -1, 10 ** 30, "", "a", "put", "reap", "ab c", [], [()], [[]], ((),), (((),),), ([],),
    (None,), (None, None), (True,), (1, 2), (1, 2, 3), (1, 2, 3, 4), ("a", "b"), ("a",), (("a",),), (("a", "b"),),
    (("a", "b", "c"),), (("a", "b", "c", "d", "e"),), (("put",),), (("put", ()),), ((("put", ()), None),),
    (([],),), (([], []),), (([], [], []),), (([], [], [], [], []),), (((), (), ()),), ((0, 0, 0),), DEEP, [DEEP], (DEEP, DEEP),
)


def as_lists(value):
    """The same value with a list for each tuple."""
    if isinstance(value, (tuple, list)):
        return [as_lists(part) for part in value]
    return value


def other_kinds(value):
    """Values near to this one that stand nowhere where this one can stand."""
    if isinstance(value, tuple):
        return [list(value), value + ((),), None, "a!", 5.0]
    if value is None:
        return [False, 0.5, (), [], "None"]
    if isinstance(value, bool):
        return [int(value), str(value), None, (value,), [value]]
    if isinstance(value, int):
        return [value == 1, str(value), -1, (value,), [value], DEEP]
    return [value + "A", value + " ", value + "\u00e4", value + "0", list(value), (value,), 0.5, False, DEEP]


def spoiled(value):
    """Copies of a value, each with one part, at any depth, that cannot stand there."""
    yield from other_kinds(value)
    if isinstance(value, tuple):
        for at, part in enumerate(value):
            for other in spoiled(part):
                yield value[:at] + (other,) + value[at + 1:]


def ask(test, function, *given):
    """The answer of a function: True or False itself, with all that it was given left as it was."""
    copies = deepcopy(given)
    answer = function(*given)
    test.assertIn(repr(answer), ("True", "False"))
    test.assertEqual(repr(given), repr(copies))
    return answer


def expect(test, wanted, function, *given):
    """Check that the function answers so."""
    with test.subTest(given=given[-1]):
        test.assertIs(ask(test, function, *given), wanted)


EVENT_WORDS = ("put", "reap", "clock", "give", "take", "lend", "quiet", "stop")


def do(ring, *moves):
    """Do these user events and STEPs, the latter by their names; return what the last one told or returned."""
    told = None
    for move in moves:
        if move[0] in EVENT_WORDS:
            told = ring.do(move)
        else:
            told = ring.step(ring.possible().index(move))
            assert told == move
    return told


def settle(ring):
    """Do the first possible step until none is possible; return the steps."""
    steps = []
    while ring.possible():
        steps.append(ring.step(0))
    return steps


def posts(ring):
    """Do all posts that are possible, first ones first, and no other step."""
    while [step for step in ring.possible() if step[0] in ("post", "note")]:
        steps = ring.possible()
        ring.step(min(at for at, step in enumerate(steps) if step[0] in ("post", "note")))


def told_by(ring):
    """Post and reap all that was told; the completions, without kept."""
    posts(ring)
    told = []
    while ring.outstanding():
        told += [completion[:4] for completion in ring.reap(9)]
    return told


def close(ring):
    """Do what is possible, a quiet, and reaps until one tells (); the HISTORY then."""
    settle(ring)
    ring.quiet()
    while ring.reap(9):
        pass
    return ring.history()
