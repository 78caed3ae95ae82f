"""Nodes by their names and the triples (node, kind, node) between them: orders, rings, what leads where."""

from heapq import heapify, heappop, heappush


def nexts_of(triples):
    """By the nodes the pairs (kind, node) of the triples that begin with them, ascending as the triples do."""
    nexts = {}
    for node, kind, other in triples:
        nexts.setdefault(node, []).append((kind, other))
    return nexts


def ahead_of(triples):
    """By the nodes those that lead to them straight, each once."""
    ahead = {}
    for node, _, other in triples:
        ahead.setdefault(other, {})[node] = True
    return ahead


def in_order(names, triples):
    """The nodes in an order that fits, always the least one that can be next; not all of them if there is a ring."""
    waits = {name: len(nodes) for name, nodes in ahead_of(triples).items()}
    nexts = nexts_of(triples)
    free = [name for name in names if name not in waits]
    heapify(free)
    done = []
    while len(free) > 0:
        name = heappop(free)
        done.append(name)
        others = {other: True for _, other in nexts.get(name, [])}
        for other in others:
            waits[other] -= 1
            if waits[other] == 0:
                heappush(free, other)
    return done


def distances_to(node, triples):
    """How many triples at least lead from other nodes to this one, by these nodes."""
    ahead = ahead_of(triples)
    far = {node: 0}
    line = [node]
    while len(line) > 0:
        further = []
        for name in line:
            for other in ahead.get(name, {}):
                if other not in far:
                    far[other] = far[name] + 1
                    further.append(other)
        line = further
    return far


def way_back(node, nexts, far):
    """How many triples at least lead from this node to itself; None if none do."""
    ways = [far[other] + 1 for _, other in nexts.get(node, []) if other in far]
    return min(ways, default=None)


def ring_from(node, nexts, far, many):
    """The least ring of so many nodes that begins with this one, as pairs (node, kind)."""
    ring = []
    name = node
    for left in range(many - 1, -1, -1):
        fitting = [(kind, other) for kind, other in nexts[name] if far.get(other) == left]
        kind, other = fitting[0]
        ring.append((name, kind))
        name = other
    return tuple(ring)


def shortest_ring(names, triples):
    """The least one of the shortest rings, as pairs (node, kind); None if there is no ring."""
    done = {name: True for name in in_order(names, triples)}
    left = [name for name in names if name not in done]
    rows = [row for row in triples if row[0] not in done and row[2] not in done]
    nexts = nexts_of(rows)
    best = None
    for node in sorted(left):
        far = distances_to(node, rows)
        many = way_back(node, nexts, far)
        if many is not None and (best is None or many < len(best)):
            best = ring_from(node, nexts, far, many)
    return best


def reached_from(starts, nexts):
    """All nodes to which these pairs lead from the starts, and the starts."""
    reached = {node: True for node in starts}
    line = list(starts)
    while len(line) > 0:
        node = line.pop()
        for _, other in nexts.get(node, []):
            if other not in reached:
                reached[other] = True
                line.append(other)
    return reached
