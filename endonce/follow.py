"""A ring that is led along a possible history: the CHOICES that do its nodes."""

from endonce.choices import choice_of, is_forced, trimmed
from endonce.events import do_event
from endonce.graph import ahead_of
from endonce.moves import possible_in
from endonce.nodes import ends_at_once, nodes_by_heads
from endonce.queue_bonds import told_steps
from endonce.state import State
from endonce.steps import do_step
from endonce.tuples import in_tuples


class Led:
    """A ring that does what the history tells, and nothing else."""

    def __init__(self, setup, facts):
        self.state = State(in_tuples(setup))
        self.events = [event for event, _ in facts.pairs]
        self.at = 0
        self.choices = []
        # By the STEPs and ("user", index) that do the nodes of the history, the names of these nodes.
        self.named = named_moves(facts)

    def moves(self):
        """The pairs (choice, move) that are possible now, by ascending choices: of STEPs and of the user event."""
        event = self.events[self.at]
        steps = possible_in(self.state)
        rows = [] if is_forced(event, steps) else [(0, ("user", self.at))]
        return rows + [(choice_of(index, event, steps), step) for index, step in enumerate(steps)]

    def do(self, row):
        """Do one of these moves."""
        choice, move = row
        if move[0] == "user":
            do_event(self.state, self.events[self.at], self.at)
            self.at += 1
        else:
            do_step(self.state, move)
        self.choices.append(choice)


def named_moves(facts):
    """The names of the nodes, by the STEPs or user events that do them."""
    posts = posts_of(facts)
    named = {}
    for head, node in nodes_by_heads(facts).items():
        if head[0] == "post":
            move = posts[head[1]]
        elif head[0] == "end" and ends_at_once(facts, head[1]):
            move = ("begin", head[1])
        else:
            move = head
        named[move] = node[0]
    return named


def posts_of(facts):
    """The STEPs that post, by the numbers of their completions."""
    posts = []
    many = {}
    for step in told_steps(facts):
        if step[0] == "free":
            posts.append(("note", step[1], step[2]))
        else:
            posts.append(("post", step[1], many.get(step[1], 0)))
            many[step[1]] = many.get(step[1], 0) + 1
    return posts


def choices_along(setup, facts, names):
    """The CHOICES that do the nodes with these names, one behind the other."""
    led = Led(setup, facts)
    for name in names:
        fitting = [row for row in led.moves() if led.named.get(row[1]) == name]
        led.do(fitting[0])
    return trimmed(led.choices)


def least_choices(setup, facts, triples):
    """The least CHOICES that give this history; triples tell what must come before what."""
    led = Led(setup, facts)
    ahead = ahead_of(triples)
    done = {}
    while led.at < len(led.events):
        rows = [row for row in led.moves() if may_be_next(led.named.get(row[1]), ahead, done)]
        done[led.named[rows[0][1]]] = True
        led.do(rows[0])
    return trimmed(led.choices)


def may_be_next(name, ahead, done):
    """Whether this node, None if it is none of the history, waits for none that is not done."""
    return name is not None and all([other in done for other in ahead.get(name, {})])
