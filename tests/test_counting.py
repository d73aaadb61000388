import copy
import itertools
import unittest

from calltowers.counting import configuration_at, count, place_of
from calltowers.order import rank
from calltowers.tables import has, table_of
from tests.chance import chance, some_stack_machine

STATES = (0, "p", (1, None))
SYMBOLS = (3, "a", ("b", 1))
# The number of a under a state is even, but under the last state odd.
EVEN = (STATES, SYMBOLS, (0, 0, 1), ((0, 1, 0), (1, 0, 1)), (0,))
# Each configuration of one state and two symbols.
ALL = ((5,), ("a", "b"), (0,), ((0, 0),), (0,))


def had(table, n):
    """The configurations with n symbols that a table has, in the order of point 13."""
    found = [(state, stack) for state in table[0] for stack in itertools.product(table[1], repeat=n)]
    return sorted([near for near in found if has(table, near)], key=rank)


class CountTest(unittest.TestCase):
    def test_of_a_few_symbols(self):
        self.assertEqual([count(EVEN, n) for n in range(4)], [2, 5, 14, 41])
        for n in range(6):
            self.assertEqual(count(EVEN, n), len(had(EVEN, n)))

    def test_of_many_symbols(self):
        self.assertEqual(count(ALL, 60), 2 ** 60)
        # Even and odd numbers of a differ by 1 ** n.
        self.assertEqual(count(EVEN, 60), (3 ** 60 + 1) + (3 ** 60 - 1) // 2)
        fibonacci = ((0, 1), ("a", "b"), (0, 0), ((0, 1), (0, 2), (2, 2)), (0, 1))
        row = [1, 2]
        while len(row) < 61:
            row.append(row[-1] + row[-2])
        self.assertEqual([count(fibonacci, n) for n in range(61)], [2 * many for many in row])

    def test_many_symbols_in_the_table(self):
        symbols = tuple(range(200))
        table = ((0,), symbols, (0,), ((0,) * 199 + (1,), (1,) * 200), (1,))
        self.assertEqual(count(table, 60), 200 ** 60 - 199 ** 60)

    def test_without_states_symbols_or_finals(self):
        for n, expected in ((0, 2), (1, 0), (60, 0)):
            self.assertEqual(count(((0, 1, 2), (), (0, 1, 1), ((), ()), (1,)), n), expected)
        for n in (0, 1, 60):
            self.assertEqual(count(((), SYMBOLS, (), ((0, 0, 0),), (0,)), n), 0)
            self.assertEqual(count(((), (), (), (), ()), n), 0)
            self.assertEqual(count((STATES, SYMBOLS, (0, 0, 0), ((0, 0, 0),), ()), n), 0)

    def test_by_chance(self):
        for seed in range(60):
            rng = chance(seed)
            states, symbols = STATES[:rng.choice([0, 1, 2, 3])], SYMBOLS[:rng.choice([0, 1, 2, 3])]
            table = table_of(some_stack_machine(rng, states, symbols), states, symbols)
            for n in range(5):
                self.assertEqual(count(table, n), len(had(table, n)))


class PlaceTest(unittest.TestCase):
    def assert_places(self, table, n):
        found = had(table, n)
        for place, near in enumerate(found):
            self.assertEqual(place_of(table, near), place)
            self.assertEqual(configuration_at(table, n, place), near)
        for place in (-1, -len(found), -len(found) - 1, len(found), len(found) + 1, 10 ** 30):
            if place not in range(len(found)):
                self.assertIsNone(configuration_at(table, n, place))

    def test_places(self):
        for n in range(6):
            self.assert_places(EVEN, n)
            self.assert_places(ALL, n)

    def test_the_state_comes_first(self):
        self.assertEqual([configuration_at(EVEN, 1, place) for place in range(5)],
                         [(0, (3,)), (0, (("b", 1),)), ("p", (3,)), ("p", (("b", 1),)), ((1, None), ("a",))])
        self.assertEqual(configuration_at(EVEN, 0, 1), ("p", ()))

    def test_what_the_table_does_not_have(self):
        for near in ((0, ("a",)), ((1, None), ()), (1, ()), ("q", (3,)), (0, ("c",)), (0, (3, ("b", 2))), (None, ())):
            self.assertIsNone(place_of(EVEN, near))
        for table in (((), SYMBOLS, (), (), ()), ((0,), (), (0,), ((),), ()), (STATES, SYMBOLS, (0, 0, 0), ((0, 0, 0),), ())):
            self.assertIsNone(place_of(table, (0, ())))
            self.assertIsNone(place_of(table, (0, (3,))))
            for n in (0, 1, 60):
                self.assertIsNone(configuration_at(table, n, 0))
                self.assertIsNone(configuration_at(table, n, -1))

    def test_without_symbols(self):
        table = ((0, 1, 2), (), (0, 1, 1), ((), ()), (1,))
        self.assert_places(table, 0)
        self.assert_places(table, 1)
        self.assertEqual(configuration_at(table, 0, 1), (2, ()))

    def test_great_places(self):
        self.assertEqual(configuration_at(ALL, 60, 2 ** 60 - 1), (5, ("b",) * 60))
        self.assertIsNone(configuration_at(ALL, 60, 2 ** 60))
        self.assertEqual(place_of(ALL, (5, ("b",) + ("a",) * 59)), 2 ** 59)
        for table in (ALL, EVEN):
            many = count(table, 60)
            for place in (0, 1, many // 3, many // 2, many - 2, many - 1):
                near = configuration_at(table, 60, place)
                self.assertEqual((len(near[1]), has(table, near), place_of(table, near)), (60, True, place))
            self.assertIsNone(configuration_at(table, 60, many))
        self.assertEqual(place_of(EVEN, ((1, None), (3,) * 59 + ("a",))), 3 ** 60 + 1)

    def test_by_chance(self):
        for seed in range(60):
            rng = chance(500 + seed)
            states, symbols = STATES[:rng.choice([0, 1, 2, 3])], SYMBOLS[:rng.choice([0, 1, 2, 3])]
            table = table_of(some_stack_machine(rng, states, symbols), states, symbols)
            for n in range(5):
                self.assert_places(table, n)
                for state in states:
                    for stack in itertools.product(symbols, repeat=n):
                        self.assertEqual(place_of(table, (state, stack)) is None, not has(table, (state, stack)))

    def test_arguments_stay(self):
        table, near = copy.deepcopy(EVEN), (0, (3, "a", "a"))
        count(table, 3)
        place_of(table, near)
        configuration_at(table, 3, 1)
        self.assertEqual((table, near), (EVEN, (0, (3, "a", "a"))))


if __name__ == "__main__":
    unittest.main()
