"""Kinds of values that need no SETUP: numbers, letters, names, rows."""

LETTERS = "abcdefghijklmnopqrstuvwxyz"


def is_number(thing, least):
    """Whether thing is a number, and not below least."""
    # Python counts True and False as int, the document does not count them as numbers.
    return isinstance(thing, int) and not isinstance(thing, bool) and thing >= least


def is_truth(thing):
    """Whether thing is True or False itself, not a number that equals it."""
    return thing is True or thing is False


def is_letters(thing, least):
    """Whether thing is a string of so many letters at least."""
    return isinstance(thing, str) and len(thing) >= least and all([letter in LETTERS for letter in thing])


def is_name(thing):
    """Whether thing is a NAME."""
    return is_letters(thing, 1) and len(thing) <= 8


def is_text(thing):
    """Whether thing is a TEXT."""
    return is_letters(thing, 1) and len(thing) <= 6


def is_row(thing, many):
    """Whether thing is a tuple of so many parts."""
    return isinstance(thing, tuple) and len(thing) == many


def ascends(names):
    """Whether these strings ascend."""
    return all([one < other for one, other in zip(names, names[1:])])


def are_names(thing):
    """Whether thing is an ascending tuple of NAMEs."""
    return isinstance(thing, tuple) and all([is_name(name) for name in thing]) and ascends(thing)
