"""CHOICES: which user event or STEP a number chooses at a moment, and which number chooses a STEP."""


def is_forced(event, steps):
    """Whether this user event, the next one, has to wait for one of these STEPs, which are possible."""
    return event[0] == "quiet" and len(steps) > 0


def chosen(choice, event, steps):
    """The index of the STEP that this choice takes; None if it takes the user event."""
    if len(steps) == 0:
        return None
    if choice == 0:
        return 0 if is_forced(event, steps) else None
    return min(choice, len(steps)) - 1


def choice_of(index, event, steps):
    """The least choice that takes the STEP with this index."""
    return 0 if index == 0 and is_forced(event, steps) else index + 1


def trimmed(choices):
    """These CHOICES without the 0s at their end."""
    many = len(choices)
    while many > 0 and choices[many - 1] == 0:
        many -= 1
    return list(choices[:many])
