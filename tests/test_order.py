import itertools
import random
import unittest

from calltowers.order import rank

# In ascending order.
ASCENDING = [
    None, -10, -2, -1, 0, 1, 2, 10, 10 ** 30, "", "a", "aa", "ab", "b", "mid", "z",
    (), (None,), (None, None), (None, 0), (None, "a"), (-1,), (-1, 5), (0,), (0, None), (0, 0), (0, 0, 0), (0, 1), (0, "", 0),
    (0, ()), (1,), ("",), ("a",), ("a", None), ("a", 0), ("a", 0, ()), ("a", "a"), ("b",), ((),), ((), None), ((), ()),
    ((None,),), ((None,), -5), ((0,),), ((0,), None), ((0,), 0), ((0, 0),), ((0, 1), None), ((1,), None), (("a",),), (((),),),
    (((0,), None), ("main", 0, (0,))), (((0,), 0), ("main", -1, (0,))), (((1,), None), ("main", 0, (0,))),
]


class RankTest(unittest.TestCase):
    def test_ascending(self):
        for low, high in itertools.combinations(ASCENDING, 2):
            self.assertTrue(rank(low) < rank(high), (low, high))
            self.assertFalse(rank(high) < rank(low), (low, high))

    def test_equal_things_have_equal_ranks(self):
        for thing in ASCENDING:
            self.assertEqual(rank(thing), rank(thing))

    def test_sorting(self):
        for seed in range(20):
            things = list(ASCENDING)
            random.Random(seed).shuffle(things)
            self.assertEqual(sorted(things, key=rank), ASCENDING)

    def test_kinds(self):
        self.assertEqual(sorted([(), "a", 0, None], key=rank), [None, 0, "a", ()])
        self.assertEqual(sorted([("b",), ("a", "z"), ("a",), ()], key=rank), [(), ("a",), ("a", "z"), ("b",)])


if __name__ == "__main__":
    unittest.main()
