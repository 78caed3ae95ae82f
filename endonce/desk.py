"""A desk, which answers the requests of a sheet line by line."""

from endonce.because import because
from endonce.errors import NoStep, NoSums, NoTag, NotClosed, NotPossible, TooMany
from endonce.fates import fates, standing
from endonce.judge import before, judge, order
from endonce.nodes import nodes
from endonce.runs import runs_many
from endonce.sheets import sheet_in
from endonce.texts import history_text
from endonce.writing import NOTHING, result_words


def answers(text):
    """The answers to the requests of the sheet with this text."""
    sheet = sheet_in(text)
    return [answer(sheet, request) for request in sheet.requests]


def answer(sheet, request):
    """The answer to this request, or the name of the error with which it is refused."""
    try:
        return told(sheet, request)
    except NotClosed:
        return "refused NotClosed"
    except NoSums:
        return "refused NoSums"
    except NotPossible:
        return "refused NotPossible"
    except NoStep:
        return "refused NoStep"
    except NoTag:
        return "refused NoTag"
    except TooMany:
        return "refused TooMany"


def told(sheet, request):
    """The answer to this request."""
    word = request[0]
    given = request[1:]
    match word:
        case "judge":
            return verdict_text(judge(sheet.setup, sheet.part))
        case "order":
            return steps_text(order(sheet.setup, sheet.part))
        case "sure":
            return "yes" if before(sheet.setup, sheet.part, given[0], given[1]) else "no"
        case "because":
            return steps_text(because(sheet.setup, sheet.part, given[0]))
        case "node":
            return steps_text(node_of(sheet.setup, sheet.part, given[0]))
        case "runs":
            return str(runs_many(sheet.setup, sheet.part))
        case "fates":
            return fates_text(fates(sheet.setup, sheet.script, given[0]))
        case "standing":
            return standing_text(standing(sheet.setup, sheet.script))
        case _:
            return lines_text(history_text(sheet.pairs))


def node_of(setup, history, step):
    """The steps of the node of this step."""
    for node in nodes(setup, history):
        if step in node:
            return node
    raise NoStep(step)


def verdict_text(reason):
    """What judge tells, as an answer."""
    if reason is None:
        return "possible"
    if reason[0] == "ring":
        return f"ring {len(reason[1])}"
    return " ".join([str(part) for part in reason])


def steps_text(steps):
    """Several steps, one at least, as an answer."""
    return "; ".join([" ".join([str(part) for part in step]) for step in steps])


def fates_text(rows):
    """What fates tells, without the CHOICES, as an answer."""
    return "; ".join([" ".join(result_words(fate)) for fate, _ in rows])


def standing_text(names):
    """What standing tells, as an answer."""
    always, sometimes = names
    return f"{tags_text(always)} | {tags_text(sometimes)}"


def tags_text(names):
    """Several tags, as a part of an answer."""
    return " ".join(names) or NOTHING


def lines_text(text):
    """The lines of a text, as an answer."""
    return text.replace("\n", " / ") or NOTHING
