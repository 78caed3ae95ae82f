import unittest

from endonce.data import is_setup
from things import DEEP, ODD, SETUP, as_lists, expect, spoiled

GOOD = (
    SETUP,
    (1, 1, (), ()),
    (1, 1, (), (None,)),
    (6, 8, ("a", "b", "c", "d"), ("d", "a", None, "a", "c")),
    (10 ** 12, 10 ** 12, ("p",), ()),
    (2, 6, ("abcdefgh", "p", "pa", "z"), ("abcdefgh",)),
    (1, 1, tuple("abcdefghijklmnopqrstuvwxyz"), (None,) * 50),
)

BAD = (
    (0, 6, ("p",), (None,)),
    (-1, 6, ("p",), (None,)),
    (2, 0, ("p",), (None,)),
    (2, -6, ("p",), (None,)),
    (True, 6, ("p",), (None,)),
    (2, True, ("p",), (None,)),
    (None, 6, ("p",), (None,)),
    ("2", 6, ("p",), (None,)),
    (2, (6,), ("p",), (None,)),
    (2, 6, ("q", "p"), (None,)),
    (2, 6, ("p", "p"), (None,)),
    (2, 6, ("",), (None,)),
    (2, 6, ("abcdefghi",), (None,)),
    (2, 6, ("P",), (None,)),
    (2, 6, ("p1",), (None,)),
    (2, 6, ("p q",), (None,)),
    (2, 6, ("p\n",), (None,)),
    (2, 6, ("\u00e9",), (None,)),
    (2, 6, ("`", "p"), (None,)),
    (2, 6, ("p", "{"), (None,)),
    (2, 6, (None,), (None,)),
    (2, 6, (1, "p"), (None,)),
    (2, 6, ("p", 1), (None,)),
    (2, 6, ("p", None), (None,)),
    (2, 6, (("p",),), (None,)),
    (2, 6, (["p"],), (None,)),
    (2, 6, "p", (None,)),
    (2, 6, None, (None,)),
    (2, 6, ["p"], (None,)),
    (2, 6, ("p",), ("q",)),
    (2, 6, ("pa",), ("p",)),
    (2, 6, ("p",), ("",)),
    (2, 6, ("p",), (0,)),
    (2, 6, ("p",), (False,)),
    (2, 6, ("p",), (("p",),)),
    (2, 6, ("p",), (None, [])),
    (2, 6, ("p",), [None]),
    (2, 6, ("p",), None),
    (2, 6, ("p",), "p"),
    (2, 6, ("p",), 1),
    (2, 6, ("p",)),
    (2, 6, ("p",), (None,), ()),
    (6, ("p",), (None,)),
    [2, 6, ("p",), (None,)],
    [2, 6, ["p"], [None]],
    (2, 6, DEEP, (None,)),
    (2, 6, ("p",), DEEP),
    (DEEP, DEEP, DEEP, DEEP),
    ((2, 6, ("p",), (None,)),),
)


class IsSetupTest(unittest.TestCase):
    def test_setups(self):
        for thing in GOOD:
            expect(self, True, is_setup, thing)

    def test_each_condition_broken_alone(self):
        for thing in BAD:
            expect(self, False, is_setup, thing)

    def test_other_kinds(self):
        for thing in ODD:
            expect(self, False, is_setup, thing)

    def test_one_part_of_another_kind(self):
        for thing in GOOD:
            for other in spoiled(thing):
                expect(self, False, is_setup, other)

    def test_lists_are_no_tuples(self):
        for thing in GOOD:
            expect(self, False, is_setup, as_lists(thing))

    def test_by_name(self):
        self.assertIs(is_setup(thing=SETUP), True)


if __name__ == "__main__":
    unittest.main()
