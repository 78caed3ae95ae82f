"""Orders: which requests of a lot can begin only behind which other ones, and lots that have a wanted order."""

from itertools import combinations

from endonce.data import chains
from endonce.errors import NoLot, NotOrder
from endonce.kinds import LETTERS
from endonce.requests import is_linktimeout
from endonce.tuples import in_tuples


def told_order(lot):
    """The pairs of tags the second of which can begin only when the first has ended, because of links and drains."""
    pairs = {}
    for chain in chains(lot):
        members = [tag for tag, _ in chain]
        for one, other in combinations(members, 2):
            pairs[(one, other)] = True
    rows = [request for request in lot if not is_linktimeout(request)]
    names = [request[0] for request in rows]
    for at, request in enumerate(rows):
        if "drain" in request[2]:
            for one, other in pairs_around(names, at):
                pairs[(one, other)] = True
    return sorted(pairs)


def pairs_around(names, at):
    """The pairs of those up to this place and those from it on."""
    return [(one, other) for one in names[:at + 1] for other in names[at:] if one != other]


def lot_for(tags, pairs):
    """A LOT of nops with these tags, and as few others as can be, whose order among the tags is just this one."""
    names = list(tags)
    order = {pair: True for pair in in_tuples(pairs)}
    expect_order(order)
    for four in combinations(names, 4):
        if shows_no_lot(order, four):
            raise NoLot(four)
    blocks = blocks_of(order, names)
    others = names_beside(names, len(blocks))
    lot = []
    for at, block in enumerate(blocks):
        if at > 0 and len(block) > 1 and len(blocks[at - 1]) > 1:
            lot.append((others[at], ("nop",), ("drain",)))
        lot += requests_for(order, block)
    return tuple(lot)


def expect_order(order):
    """Refuse the least pair because of which this is no strict order."""
    wrong = [pair for pair in order if pair[0] == pair[1]]
    wrong += [(one, other) for one, between in order for middle, other in order
              if between == middle and (one, other) not in order]
    if len(wrong) > 0:
        raise NotOrder(min(wrong))


def are_related(order, one, other):
    """Whether one of these two comes ahead of the other."""
    return (one, other) in order or (other, one) in order


def shows_no_lot(order, four):
    """Whether these four tags, in some roles, show that no lot has this order."""
    for one in four:
        for fourth in four:
            pair = [tag for tag in four if tag not in (one, fourth)]
            if len(pair) == 2 and divides(order, one, pair) and not fits_beside(order, one, pair, fourth):
                return True
    return False


def divides(order, one, pair):
    """Whether these two are unrelated, and both behind the one or both ahead of it."""
    if are_related(order, pair[0], pair[1]):
        return False
    behind = [tag for tag in pair if (one, tag) in order]
    ahead = [tag for tag in pair if (tag, one) in order]
    return len(behind) == 2 or len(ahead) == 2


def fits_beside(order, one, pair, fourth):
    """Whether a fourth tag is related to the one, or to both of the pair as the one is."""
    return are_related(order, one, fourth) or all([are_related(order, tag, fourth) for tag in pair])


def count_ahead(order, name):
    """How many come ahead of this one."""
    return len([pair for pair in order if pair[1] == name])


def blocks_of(order, names):
    """The blocks of these names, each of which comes behind the one ahead, as lists."""
    blocks = parts_of(names, lambda one, other: not are_related(order, one, other))
    return sorted(blocks, key=lambda block: count_ahead(order, block[0]))


def parts_of(names, joins):
    """The parts of these names: those that are joined, straight or by others, are in one."""
    parts = []
    for name in names:
        near = [part for part in parts if any([joins(name, other) for other in part])]
        far = [part for part in parts if part not in near]
        parts = far + [[name] + [other for part in near for other in part]]
    return parts


def requests_for(order, block):
    """The REQUESTs for a block: one with "drain", or a chain for each row."""
    if len(block) == 1:
        return [(block[0], ("nop",), ("drain",))]
    requests = []
    for row in parts_of(block, lambda one, other: are_related(order, one, other)):
        line = sorted(row, key=lambda name: count_ahead(order, name))
        requests += [(name, ("nop",), ("link",)) for name in line[:-1]]
        requests.append((line[-1], ("nop",), ()))
    return requests


def names_beside(names, many):
    """So many NAMEs that are none of these."""
    rows = [first + last for first in ("", *LETTERS) for last in LETTERS]
    return [name for name in rows if name not in names][:many]
