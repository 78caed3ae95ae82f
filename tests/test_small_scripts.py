"""On scripts so small that all their runs can be done one by one: what the program tells of them is what these runs do."""

import unittest
from random import Random

from endonce.data import is_closed, is_history
from endonce.judge import before, judge
from endonce.limits import MOST_HISTORIES
from endonce.runs import closed_histories, runs_many
from searches import AllRuns, TooLong, always_before, named_posts
from some_runs import ChainMaker, Maker

MOST_RUNS = 600


def small_scripts(seeds):
    """SETUPs and SCRIPTs of three requests at most, each with all its runs."""
    for seed in seeds:
        for maker in (Maker(seed, 3), ChainMaker(seed, 3)):
            script = maker.script()[:-1][:6]
            try:
                runs = AllRuns(maker.setup, script, MOST_RUNS)
            except TooLong:
                continue
            if len(runs.least) <= MOST_HISTORIES:
                yield maker.setup, script, runs


def with_told(history, at, told):
    """The same history, but for what the pair number at is told."""
    return history[:at] + ((history[at][0], told),) + history[at + 1:]


def crossed(dice, histories, many):
    """Histories with what one pair was told in another history, or with one thing told in another way."""
    for _ in range(many):
        history = dice.choice(histories)
        at = dice.randrange(len(history))
        others = [other[at][1] for other in histories if len(other) > at and other[at][0] == history[at][0]]
        yield with_told(history, at, dice.choice(others))
        yield with_told(history, at, changed(dice, history[at][1]))


def changed(dice, told):
    """What is told with one change in it: a part left out, exchanged with the next one, or another truth or number."""
    if told is True or told is False:
        return not told
    if isinstance(told, int):
        return told + dice.choice((-1, 1))
    if not isinstance(told, tuple) or not told:
        return told
    at = dice.randrange(len(told))
    way = dice.randrange(5)
    if way == 0:
        return told[:at] + told[at + 1:]
    if way == 1:
        return told[:at] + told[at:at + 2][::-1] + told[at + 2:]
    return told[:at] + (changed(dice, told[at]),) + told[at + 1:]


class SmallScriptsTest(unittest.TestCase):
    def test_closed_histories_with_their_least_choices(self):
        many = 0
        for setup, script, runs in small_scripts(range(120)):
            rows = closed_histories(setup, script)
            self.assertEqual(rows, sorted(((history, choices) for history, choices in runs.least.items()), key=lambda row: row[1]), (setup, script))
            many += len(rows)
        self.assertGreater(many, 1000)

    def test_runs_many(self):
        for setup, script, runs in small_scripts(range(200, 240)):
            for history, orders in runs.orders.items():
                self.assertEqual(runs_many(setup, history), len(orders), (setup, history))

    def test_before_is_what_all_runs_have_in_common(self):
        for setup, script, runs in small_scripts(range(300, 340)):
            for history, orders in list(runs.orders.items())[:3]:
                pairs = always_before(orders)
                steps = named_posts(orders[0])
                told = {(one, other) for one in steps for other in steps if before(setup, history, one, other)}
                self.assertEqual(told, pairs, (setup, history))

    def test_the_judge_lets_by_the_closed_histories_and_no_others(self):
        reasons = {}
        for number, (setup, script, runs) in enumerate(small_scripts(range(400, 520))):
            dice = Random(number)
            for history in runs.least:
                self.assertIsNone(judge(setup, history), (setup, history))
            for other in set(crossed(dice, list(runs.least), 80)):
                if is_history(setup, other) and is_closed(other):
                    reason = judge(setup, other)
                    self.assertEqual(reason is None, other in runs.least, (setup, other))
                    word = None if reason is None else reason[0]
                    reasons[word] = reasons.get(word, 0) + 1
        self.assertTrue(all(reasons.get(word, 0) > 50 for word in (None, "numbers", "ring")), reasons)


if __name__ == "__main__":
    unittest.main()
