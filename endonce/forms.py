"""Forms: tuples that begin with a word, behind which stand parts of known kinds."""

from endonce.kinds import are_names, ascends, is_letters, is_name, is_number, is_row, is_text, is_truth

WHERES = {"pipe": ("pipe",), "slot": ("slot",)}


def word_of(thing):
    """The word with which a tuple begins; "" if thing is no such tuple."""
    if isinstance(thing, tuple) and len(thing) > 0 and isinstance(thing[0], str):
        return thing[0]
    return ""


def is_pipe(setup, thing):
    """Whether thing is a pipe of the SETUP."""
    return thing in setup[2]


def is_slot(setup, thing):
    """Whether thing is the number of a slot of the SETUP."""
    return is_number(thing, 0) and thing < len(setup[3])


def is_where(setup, thing):
    """Whether thing is a where, of a pipe or a slot of the SETUP."""
    word = word_of(thing)
    return word in WHERES and has_parts(setup, thing, WHERES[word])


def are_taken(thing):
    """Whether thing is an ascending tuple of pairs (tag, begun), with each tag once."""
    if not isinstance(thing, tuple) or not all([is_row(pair, 2) for pair in thing]):
        return False
    fit = all([is_name(tag) and is_truth(begun) for tag, begun in thing])
    return fit and ascends([tag for tag, _ in thing])


def is_kind(setup, part, kind):
    """Whether part is of the kind with this word."""
    match kind:
        case "truth" | "good":
            return is_truth(part)
        case "from 0":
            return is_number(part, 0)
        case "from 1":
            return is_number(part, 1)
        case "name":
            return is_name(part)
        case "text":
            return is_text(part)
        case "letters":
            return is_letters(part, 1)
        case "pipe":
            return is_pipe(setup, part)
        case "pipe or none":
            return part is None or is_pipe(setup, part)
        case "slot":
            return is_slot(setup, part)
        case "where":
            return is_where(setup, part)
        case "taken":
            return are_taken(part)
        case _:
            assert kind == "names"
            return are_names(part)


def has_parts(setup, thing, kinds):
    """Whether behind the word of thing stand parts of just these kinds."""
    parts = thing[1:]
    if len(parts) != len(kinds):
        return False
    return all([is_kind(setup, part, kind) for part, kind in zip(parts, kinds)])
