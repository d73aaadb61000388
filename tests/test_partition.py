import unittest

from calltowers.partition import Partition
from tests.chance import chance


def plain_classes(rows, classes):
    """The classes by signing all things anew until nothing changes; told as the least thing of each class."""
    while True:
        looks = [(own, frozenset((label, tuple(classes[target] for target in targets)) for label, targets in row))
                 for own, row in zip(classes, rows)]
        after = [looks.index(look) for look in looks]
        if after == classes:
            return after
        classes = after


def told(classes):
    return [classes.index(own) for own in classes]


class PartitionTest(unittest.TestCase):
    def test_nothing(self):
        self.assertEqual(Partition([], []).classes, [])
        self.assertEqual(told(Partition([[], [], []], [7, 3, 7]).classes), [0, 1, 0])

    def test_a_chain(self):
        rows = [[("a", (at + 1,))] for at in range(9)] + [[]]
        self.assertEqual(told(Partition(rows, [0] * 10).classes), list(range(10)))
        rows = [[("a", ((at + 1) - (at + 1) // 10 * 10,))] for at in range(10)]
        self.assertEqual(told(Partition(rows, [0] * 10).classes), [0] * 10)
        self.assertEqual(told(Partition(rows, [0, 1] * 5).classes), [0, 1] * 5)

    def test_rows_that_are_told_twice(self):
        rows = [[("a", (2, 3))], [("a", (2, 3)), ("a", (2, 3))], [], [("b", ())]]
        self.assertEqual(told(Partition(rows, [0] * 4).classes), [0, 0, 2, 3])

    def test_by_chance(self):
        sizes = set()
        for seed in range(300):
            rng = chance(seed)
            many = rng.randint(1, 12)
            rows = [[(rng.choice("ab"), tuple(rng.randrange(many) for _ in range(rng.choice([1, 1, 2]))))
                     for _ in range(rng.choice([0, 1, 1, 2]))] for _ in range(many)]
            first = [rng.choice([0, 0, 0, 5]) for _ in range(many)]
            found = told(Partition(rows, first).classes)
            self.assertEqual(found, plain_classes(rows, told(first)))
            sizes.add((many, len(set(found))))
        self.assertGreater(len(sizes), 40)


if __name__ == "__main__":
    unittest.main()
