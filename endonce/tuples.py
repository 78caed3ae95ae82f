"""Values whose lists and tuples are all tuples."""


def in_tuples(thing):
    """The same value, with a tuple for each list or tuple in it, at any depth."""
    if isinstance(thing, (list, tuple)):
        return tuple([in_tuples(part) for part in thing])
    return thing
