import unittest

from endonce.limits import MOST_HISTORIES, MOST_SETS


class LimitsTest(unittest.TestCase):
    def test_the_limits_are_those_of_point_8(self):
        self.assertEqual(MOST_HISTORIES, 300)
        self.assertEqual(MOST_SETS, 4000)
        self.assertEqual([value.__class__ for value in (MOST_HISTORIES, MOST_SETS)], [int, int])


if __name__ == "__main__":
    unittest.main()
