"""What the program tells of scripts is what their runs do: all runs of small scripts, and some runs of larger ones."""

import unittest
from random import Random

from endonce.because import because
from endonce.data import is_closed, is_history, tags
from endonce.errors import TooMany
from endonce.fates import fates, standing, together
from endonce.judge import before, judge
from endonce.limits import MOST_HISTORIES
from endonce.nodes import nodes
from endonce.ring import Ring
from endonce.runs import closed_histories, runs_many
from changes import crossed
from searches import AllRuns, TooLong, always_before, named_posts
from some_runs import ChainMaker, Maker
from things import posts

MOST_RUNS = 600


def small_scripts(seeds):
    """SETUPs and SCRIPTs of three requests at most, each with all its runs."""
    for seed in seeds:
        for maker in (Maker(seed, 3), ChainMaker(seed, 3)):
            script = maker.script()[:-1][:6]
            try:
                runs = AllRuns(maker.setup, script, MOST_RUNS)
            except TooLong:
                continue
            if len(runs.least) <= MOST_HISTORIES:
                yield maker.setup, script, runs


def ends_in(history):
    """By tags the FATEs that a closed history tells."""
    told = {}
    for event, word in history:
        if event[0] == "put":
            # A silent one that ends well is not told.
            told.update({tag: ("not put",) if word else ("done",) for tag, _, _ in event[1]})
    table = [rows for event, rows in history if event[0] == "quiet"][-1]
    told.update({tag: ("stays",) for tag, _, _ in table})
    told.update({row[0]: row[1] for event, rows in history if event[0] == "reap" for row in rows if not row[3] and row[1][0] != "freed"})
    return told


def told_of(history, tag):
    """All that is told of this request, but for kept; of one that ended untold nothing."""
    return [row[:4] for event, rows in history if event[0] == "reap" for row in rows if row[0] == tag]


def told_without(setup, history, done, named, needed, tag):
    """What a new Ring tells of this request, on which of all that was done only the nodes that were needed are done."""
    ring = Ring(setup)
    for step, name in zip(done, named_posts(done)):
        if named.get(name) in needed:
            if step[0] == "user":
                ring.do(history[step[1]][0])
            else:
                ring.step(ring.possible().index(step))
    assert tag not in [row[0] for row in ring.unended()]
    posts(ring)
    while ring.reap(9):
        pass
    return told_of(ring.history(), tag)


class LargerScriptsTest(unittest.TestCase):
    def test_each_run_gives_one_of_the_closed_histories(self):
        many = 0
        for seed in range(1000, 1120):
            for maker in (Maker(seed, 7), ChainMaker(seed, 7)):
                script = maker.script()
                try:
                    rows = closed_histories(maker.setup, script[:-1])
                except TooMany:
                    continue
                found = {history for history, _ in rows}
                many += len(found) > 1
                for _ in range(min(20, 4 * len(found))):
                    self.assertIn(maker.run(script).history(), found, (maker.setup, script))
        self.assertGreater(many, 60)


class SmallScriptsTest(unittest.TestCase):
    def test_closed_histories_with_their_least_choices(self):
        many = 0
        for setup, script, runs in small_scripts(range(120)):
            rows = closed_histories(setup, script)
            self.assertEqual(rows, sorted(((history, choices) for history, choices in runs.least.items()), key=lambda row: row[1]), (setup, script))
            many += len(rows)
        self.assertGreater(many, 1000)

    def test_runs_many(self):
        for setup, script, runs in small_scripts(range(200, 240)):
            for history, orders in runs.orders.items():
                self.assertEqual(runs_many(setup, history), len(orders), (setup, history))

    def test_before_is_what_all_runs_have_in_common(self):
        for setup, script, runs in small_scripts(range(300, 315)):
            for history, orders in list(runs.orders.items())[:3]:
                pairs = always_before(orders)
                steps = named_posts(orders[0])
                told = {(one, other) for one in steps for other in steps if before(setup, history, one, other)}
                self.assertEqual(told, pairs, (setup, history))

    def test_the_fates_are_the_ends_that_come_in_runs(self):
        found = set()
        for setup, script, runs in small_scripts(range(600, 660)):
            told = {tag: {} for tag in tags(script)}
            for history, choices in runs.least.items():
                for tag, fate in ends_in(history).items():
                    told[tag][fate] = min(told[tag].get(fate, choices), choices)
                    found.add(fate[0])
            for tag, row in told.items():
                self.assertEqual(fates(setup, script, tag), sorted(row.items()), (setup, script, tag))
                for fate, choices in row.items():
                    self.assertEqual(together(setup, script, ((tag, fate),)), choices)
            always = [tag for tag in sorted(told) if set(told[tag]) <= {("stays",), ("not put",)}]
            self.assertEqual(standing(setup, script), (always, [tag for tag in sorted(told) if ("stays",) in told[tag]]))
        self.assertGreater(len(found), 18)

    def test_what_two_have_together(self):
        for number, (setup, script, runs) in enumerate(small_scripts(range(700, 730))):
            dice = Random(number)
            rows = [(ends_in(history), choices) for history, choices in runs.least.items()]
            for _ in range(5):
                names = [tag for tag in tags(script) if dice.random() < 0.8]
                wanted = tuple((tag, dice.choice(rows)[0][tag]) for tag in names)
                fitting = [choices for told, choices in rows if all(told[tag] == fate for tag, fate in wanted)]
                self.assertEqual(together(setup, script, wanted), min(fitting, default=None), (setup, script, wanted))

    def test_what_was_needed_for_an_end_is_enough(self):
        for setup, script, runs in small_scripts(range(800, 860)):
            for history, orders in list(runs.orders.items())[:4]:
                named = {step: node[0] for node in nodes(setup, history) for step in node}
                for tag in [step[1] for step in named if step[0] == "end"]:
                    needed = {named[step] for step in because(setup, history, tag)}
                    puts = [history[name[1]] for name in needed if name[0] == "user" and history[name[1]][0][0] == "put"]
                    if all(told is None for _, told in puts):
                        for done in orders[:4]:
                            self.assertEqual(told_without(setup, history, done, named, needed, tag), told_of(history, tag), (setup, history, tag))

    def test_the_judge_lets_by_the_closed_histories_and_no_others(self):
        reasons = {}
        for number, (setup, script, runs) in enumerate(small_scripts(range(400, 520))):
            dice = Random(number)
            for history in runs.least:
                self.assertIsNone(judge(setup, history), (setup, history))
            for other in set(crossed(dice, list(runs.least), 80)):
                if is_history(setup, other) and is_closed(other):
                    reason = judge(setup, other)
                    self.assertEqual(reason is None, other in runs.least, (setup, other))
                    word = None if reason is None else reason[0]
                    reasons[word] = reasons.get(word, 0) + 1
        self.assertTrue(all(reasons.get(word, 0) > 50 for word in (None, "numbers", "ring")), reasons)


if __name__ == "__main__":
    unittest.main()
