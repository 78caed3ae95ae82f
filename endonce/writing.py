"""The lines of texts: how events, and what they are told, are written."""

NOTHING = "-"


def part_words(part):
    """The words for a part of a deed or of a result."""
    if part is None:
        return [NOTHING]
    if part is True or part is False:
        return ["yes" if part else "no"]
    return [str(part)]


def where_word(where):
    """The word for a where."""
    word, place = where
    return place if word == "pipe" else f"#{place}"


def deed_words(deed):
    """The words for a DEED."""
    if deed[0] == "work":
        return ["work", "good" if deed[1] else "bad"]
    words = [deed[0]]
    for part in deed[1:]:
        words += [where_word(part)] if isinstance(part, tuple) else part_words(part)
    return words


def request_text(request):
    """The text of a REQUEST."""
    tag, deed, flags = request
    return " ".join([tag, *deed_words(deed), *flags])


def event_text(event):
    """The line of an EVENT that is told nothing."""
    if event[0] == "put":
        return "put " + " | ".join([request_text(request) for request in event[1]])
    return " ".join([str(part) for part in event])


def all_words(taken, late):
    """The words behind "all": those that were taken, and those that were late."""
    words = []
    for tag, begun in taken:
        words += [tag, *part_words(begun)]
    return words + ["/", *late]


def result_words(result):
    """The words for a result."""
    words = [result[0].replace(" ", "-")]
    if result[0] == "all":
        return words + all_words(result[1], result[2])
    for part in result[1:]:
        words += part_words(part)
    return words


def completion_text(completion):
    """The text of a COMPLETION."""
    name, result, turn, more, kept = completion
    words = [name if isinstance(name, str) else f"#{name}", *result_words(result)]
    if turn is not None:
        words.append(f"@{turn}")
    if more:
        words.append("+")
    if kept:
        words.append("!")
    return " ".join(words)


def unended_text(triple):
    """The text of a triple of a quiet."""
    tag, begun, turn = triple
    return " ".join([tag, *part_words(begun), *part_words(turn)])


def told_text(event, told):
    """The text of what an EVENT was told, which is not None."""
    match event[0]:
        case "put":
            return told
        case "give":
            return str(told[1]) if told[0] == "given" else f"shut {told[1]}"
        case "take":
            return f"{told[0]} {told[1] or NOTHING}"
        case "quiet":
            return " ; ".join([unended_text(triple) for triple in told]) or NOTHING
        case _:
            return " ; ".join([completion_text(completion) for completion in told]) or NOTHING


def pair_text(pair):
    """The line of a pair of a HISTORY."""
    event, told = pair
    if told is None:
        return event_text(event)
    return f"{event_text(event)} -> {told_text(event, told)}"
