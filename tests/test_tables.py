import copy
import itertools
import unittest

from calltowers.order import rank
from calltowers.pushdowns import head_of, rules_of
from calltowers.stacks import accepts, is_plain, successors
from calltowers.tables import difference, has, least, machine_of, meet, minus, table_of, union
from tests.chance import chance, some_stack_machine
from tests.samples import DEEP

STATES = (0, "p", (1, None))
SYMBOLS = (3, "a", ("b", 1))
# From p: an a, and then any number of 3; and the empty stack. From 0: nothing but two ("b", 1).
MACHINE = (((0, ("b", 1), "x"), ("x", ("b", 1), "end"), ("p", "a", "n"), ("n", 3, "n")), ("end", "n", "p"))
# The number of a under a state is even.
EVEN = (STATES, SYMBOLS, (0, 0, 1), ((0, 1, 0), (1, 0, 1)), (0,))
NOTHING = (STATES, SYMBOLS, (0, 0, 0), ((0, 0, 0),), ())


def all_of(states, symbols, most):
    """All configurations with up to so many symbols, the smaller ones first, and then in the order of point 13."""
    return [(state, stack) for size in range(most + 1) for state in states for stack in itertools.product(symbols, repeat=size)]


def accepted(machine, most=4, states=STATES, symbols=SYMBOLS):
    return [near for near in all_of(states, symbols, most) if accepts(machine, near)]


def had(table, most=4):
    return [near for near in all_of(table[0], table[1], most) if has(table, near)]


def plain_node_count(configurations, states, symbols, most):
    """How many different sets of stacks lead on from what is reached by few symbols (Myhill and Nerode)."""
    taken = set(configurations)
    rests = [stack for _, stack in all_of((None,), symbols, most)]
    return len({tuple((state, ahead + rest) in taken for rest in rests)
                for state, ahead in all_of(states, symbols, most)})


class TableTest(unittest.TestCase):
    def assert_is_table(self, table, states, symbols):
        self.assertEqual(len(table), 5)
        self.assertEqual(table[:2], (states, symbols))
        _, _, starts, moves, finals = table
        self.assertEqual((len(starts), {len(row) for row in moves} - {len(symbols)}), (len(states), set()))
        for node in starts + finals + tuple(node for row in moves for node in row):
            self.assertIs(type(node), int)
            self.assertIn(node, range(len(moves)))
        self.assertEqual(finals, tuple(sorted(set(finals))))
        for part in (table, starts, moves, finals, *moves):
            self.assertIs(type(part), tuple)

    def test_has(self):
        for near in all_of(STATES, SYMBOLS, 5):
            many = near[1].count("a") + (1 if near[0] == (1, None) else 0)
            self.assertIs(has(EVEN, near), many % 2 == 0, near)

    def test_has_no_strange_states_and_symbols(self):
        for state, stack in ((1, ()), ("q", ()), ((1,), (3,)), (0, (4,)), (0, (3, "b")), (0, (3, ("b", 2), 3)), (None, ()), ("a", ())):
            self.assertIs(has(EVEN, (state, stack)), False)

    def test_has_where_little_is_there(self):
        self.assertIs(has(((), (), (), (), ()), (0, ())), False)
        self.assertIs(has(((0,), (), (0,), ((),), (0,)), (0, ())), True)
        self.assertIs(has(((0,), (), (0,), ((),), ()), (0, ())), False)
        self.assertIs(has(((0,), (), (0,), ((),), (0,)), (0, (3,))), False)
        self.assertIs(has(NOTHING, (0, ())), False)

    def test_table_of(self):
        table = table_of(MACHINE, STATES, SYMBOLS)
        self.assert_is_table(table, STATES, SYMBOLS)
        self.assertEqual(had(table, 5), accepted(MACHINE, 5))
        self.assertIs(has(table, (0, (("b", 1), ("b", 1)))), True)
        self.assertIs(has(table, ("p", ("a", 3, 3, 3, 3, 3))), True)

    def test_table_of_edges_labelled_none(self):
        machine = ((("p", None, "x"), ("x", "a", "y"), ("y", None, "z"), ("z", None, "x"), ("z", 3, "end"), (0, None, "end")), ("end", "z"))
        table = table_of(machine, STATES, SYMBOLS)
        self.assertEqual(had(table), accepted(machine))
        self.assertIs(has(table, ("p", ("a",))), True)
        self.assertIs(has(table, ("p", ("a", "a", 3))), True)
        self.assertIs(has(table, (0, ())), True)
        self.assertIs(has(table, ("p", ())), False)

    def test_table_of_other_symbols_and_states(self):
        machine = (MACHINE[0] + (("p", "other", "end"), ("x", "other", "end"), ("far", 3, "end")), MACHINE[1])
        table = table_of(machine, STATES, SYMBOLS)
        self.assertEqual(had(table), accepted(MACHINE))
        self.assertIs(has(table, ("p", ("other",))), False)
        # A state that the machine does not know; and one that is only among its finals.
        for finals, expected in (((), []), (("new",), [("new", ())])):
            table = table_of((MACHINE[0], MACHINE[1] + finals), ("new",), SYMBOLS)
            self.assert_is_table(table, ("new",), SYMBOLS)
            self.assertEqual(had(table), expected)

    def test_table_of_little(self):
        for machine in (MACHINE, ((), ()), ((), ("p",))):
            for states, symbols in (((), SYMBOLS), (STATES, ()), ((), ())):
                table = table_of(machine, states, symbols)
                self.assert_is_table(table, states, symbols)
                self.assertEqual(had(table), accepted(machine, 4, states, symbols))

    def test_several_ways(self):
        machine = (((0, 3, "x"), (0, 3, "y"), ("x", 3, "x"), ("y", "a", "end"), ("x", "a", "y")), ("end",))
        table = table_of(machine, STATES, SYMBOLS)
        self.assertEqual(had(table, 5), accepted(machine, 5))

    def test_the_table_of_a_program(self):
        rules, (state, symbol) = rules_of(DEEP), head_of(DEEP)
        reached = successors(rules, (((state, symbol, "end"),), ("end",)))
        states = tuple(sorted({near for p, _, q, _, _ in rules for near in (p, q)}, key=rank))
        symbols = tuple(sorted({near for _, s, _, w, _ in rules for near in (s,) + w}, key=rank))
        table = least(table_of(reached, states, symbols))
        self.assert_is_table(table, states, symbols)
        self.assertEqual(had(table, 2), accepted(reached, 2, states, symbols))
        self.assertEqual(least(table_of(machine_of(table), states, symbols)), table)
        self.assertIs(is_plain(rules, machine_of(table)), True)

    def test_meet_union_minus(self):
        first = table_of(MACHINE, STATES, SYMBOLS)
        for second in (EVEN, NOTHING, first):
            left, right = had(first), had(second)
            for table, expected in (
                (meet(first, second), [near for near in left if near in right]),
                (union(first, second), [near for near in all_of(STATES, SYMBOLS, 4) if near in left or near in right]),
                (minus(first, second), [near for near in left if near not in right]),
                (minus(second, first), [near for near in right if near not in left]),
            ):
                self.assert_is_table(table, STATES, SYMBOLS)
                self.assertEqual(had(table), expected)

    def test_least(self):
        # The nodes are numbered as they are come to: from the starts, then from each node in order.
        table = (("p", "q"), ("a", "b"), (4, 2), ((0, 0), (1, 0), (3, 4), (3, 4), (2, 1)), (1, 2, 3))
        self.assertEqual(least(table), (("p", "q"), ("a", "b"), (0, 1), ((1, 2), (1, 0), (2, 3), (3, 3)), (1, 2)))
        self.assertEqual(had(least(table)), had(table))

    def test_least_of_what_has_everything_or_nothing(self):
        self.assertEqual(least(NOTHING), NOTHING)
        everything = (STATES, SYMBOLS, (0, 0, 0), ((0, 0, 0),), (0,))
        self.assertEqual(least(union(EVEN, minus(everything, EVEN))), everything)
        self.assertEqual(least(minus(EVEN, EVEN)), NOTHING)
        # Nodes that are not reached are left out.
        self.assertEqual(least((STATES, SYMBOLS, (1, 1, 1), ((0, 0, 0), (1, 1, 1), (2, 1, 0)), (1, 2))), everything)

    def test_least_of_little(self):
        self.assertEqual(least(((), SYMBOLS, (), (), ())), ((), SYMBOLS, (), (), ()))
        self.assertEqual(least(((), SYMBOLS, (), ((0, 0, 0),), (0,))), ((), SYMBOLS, (), (), ()))
        self.assertEqual(least((("p", "q", "r"), (), (2, 1, 0), ((), (), ()), (0, 2))), (("p", "q", "r"), (), (0, 1, 0), ((), ()), (0,)))

    def test_least_of_long_stacks(self):
        many = 1500
        machine = (tuple((("n", at) if at else 0, 3, ("n", at + 1)) for at in range(many)), (("n", many),))
        table = least(table_of(machine, (0,), (3,)))
        self.assertEqual(table[2:], ((0,), tuple((min(at + 1, many + 1),) for at in range(many + 2)), (many,)))

    def test_by_chance(self):
        sizes = set()
        for seed in range(150):
            rng = chance(seed)
            states, symbols = STATES[:rng.choice([0, 1, 2, 3, 3])], SYMBOLS[:rng.choice([0, 1, 2, 3, 3])]
            machines = [some_stack_machine(rng, states, symbols) for _ in range(2)]
            first, second = [table_of(machine, states, symbols) for machine in machines]
            left, right = [accepted(machine, 4, states, symbols) for machine in machines]
            self.assertEqual((had(first), had(second)), (left, right))
            self.assertEqual(had(meet(first, second)), [near for near in left if near in right])
            self.assertEqual(had(minus(first, second)), [near for near in left if near not in right])
            self.assertEqual(set(had(union(first, second))), set(left + right))
            small = least(first)
            self.assert_is_table(small, states, symbols)
            self.assertEqual((had(small), least(small)), (left, small))
            # Nothing is taken away exactly if both have nothing in common.
            nothing_taken = least(minus(first, second)) == small
            self.assertEqual(nothing_taken, least(meet(first, second)) == least(minus(first, first)))
            for other in (union(first, first), meet(first, first), minus(first, minus(first, first)),
                          union(minus(first, second), meet(second, first)), table_of(machine_of(first), states, symbols)):
                self.assertEqual(least(other), small)
            if len(small[3]) <= 4:
                self.assertEqual(plain_node_count(accepted(machines[0], 6, states, symbols), states, symbols, 3), len(small[3]))
            sizes.add(len(small[3]))
        self.assertLessEqual({0, 1, 2, 3, 4, 5}, sizes)


class DifferenceTest(unittest.TestCase):
    def test_none(self):
        self.assertIsNone(difference(EVEN, EVEN))
        self.assertIsNone(difference(NOTHING, minus(EVEN, EVEN)))
        for first in (EVEN, table_of(MACHINE, STATES, SYMBOLS)):
            self.assertIsNone(difference(first, least(first)))
        self.assertIsNone(difference(((), SYMBOLS, (), (), ()), ((), SYMBOLS, (), ((0, 0, 0),), (0,))))

    def test_in_the_empty_stack(self):
        self.assertEqual(difference(EVEN, NOTHING), (0, ()))
        self.assertEqual(difference(table_of(MACHINE, STATES, SYMBOLS), NOTHING), ("p", ()))
        self.assertEqual(difference((("p",), (), (0,), ((),), (0,)), (("p",), (), (0,), ((),), ())), ("p", ()))

    def test_in_stacks_of_several_symbols(self):
        for stack in ((3,), ("a", 3), (("b", 1), "a", 3, 3)):
            for state in STATES:
                ways = [state] + [("n", at) for at in range(len(stack))]
                machine = (tuple(zip(ways, stack, ways[1:])), (ways[-1],))
                first = table_of(machine, STATES, SYMBOLS)
                self.assertEqual(difference(first, NOTHING), (state, stack))
                self.assertEqual(difference(EVEN, union(first, EVEN)), None if has(EVEN, (state, stack)) else (state, stack))

    def test_the_least_of_several_ones(self):
        machine = (("p", 3, "x"), ("p", "a", "x"), (0, ("b", 1), "x"), ("x", ("b", 1), "y"), ("x", "a", "z"), ((1, None), 3, "z"))
        self.assertEqual(difference(table_of((machine, ("x",)), STATES, SYMBOLS), NOTHING), (0, (("b", 1),)))
        self.assertEqual(difference(table_of((machine, ("y", "z")), STATES, SYMBOLS), NOTHING), ((1, None), (3,)))
        self.assertEqual(difference(table_of((machine[:-1], ("y", "z")), STATES, SYMBOLS), NOTHING), (0, (("b", 1), "a")))
        self.assertEqual(difference(table_of((machine[:2] + machine[3:5], ("y", "z")), STATES, SYMBOLS), NOTHING), ("p", (3, "a")))

    def test_by_chance(self):
        sizes = set()
        for seed in range(300):
            rng = chance(2000 + seed)
            states, symbols = STATES[:rng.choice([1, 2, 3])], SYMBOLS[:rng.choice([1, 2, 3])]
            first = table_of(some_stack_machine(rng, states, symbols), states, symbols)
            second = table_of(some_stack_machine(rng, states, symbols), states, symbols)
            apart = [near for near in all_of(states, symbols, 4) if has(first, near) != has(second, near)]
            apart.sort(key=lambda near: (len(near[1]), rank(near)))
            found = difference(first, second)
            self.assertEqual(found is None, least(first) == least(second))
            if apart:
                self.assertEqual(found, apart[0])
            elif found is not None:
                self.assertGreater(len(found[1]), 4)
                self.assertNotEqual(has(first, found), has(second, found))
            sizes.add(None if found is None else len(found[1]))
        self.assertLessEqual({None, 0, 1, 2}, sizes)


class MachineTest(unittest.TestCase):
    RULES = tuple((state, symbol, other, (), 0) for state in STATES for symbol in SYMBOLS for other in STATES)

    def assert_machine(self, table):
        machine = machine_of(table)
        edges, finals = machine
        self.assertIs(is_plain(self.RULES, machine), True)
        for start, symbol, target in edges:
            self.assertIn(symbol, table[1])
            self.assertTrue(start in table[0] or start[0] == "node" and type(start[1]) is int)
            self.assertEqual((target[0], type(target[1]), len(target)), ("node", int, 2))
        self.assertEqual(list(edges), sorted(set(edges), key=rank))
        self.assertEqual(list(finals), sorted(set(finals), key=rank))
        self.assertEqual(accepted(machine, 4, *table[:2]), had(table))

    def test_machine_of(self):
        for table in (EVEN, NOTHING, table_of(MACHINE, STATES, SYMBOLS), least(table_of(MACHINE, STATES, SYMBOLS)),
                      ((), SYMBOLS, (), ((0, 0, 0),), (0,)), (STATES, (), (0, 1, 0), ((), ()), (0,)), ((), (), (), (), ())):
            self.assert_machine(table)

    def test_a_state_that_looks_like_a_node(self):
        states = (("node", 0), ("node", 1), ("node", 3))
        table = (states, ("a", "b"), (0, 1, 1), ((1, 0), (1, 2), (0, 0)), (2,))
        machine = machine_of(table)
        self.assertEqual([edge for edge in machine[0] if edge[2] in states], [])
        self.assertEqual(accepted(machine, 4, *table[:2]), had(table))

    def test_by_chance(self):
        for seed in range(60):
            rng = chance(4000 + seed)
            self.assert_machine(table_of(some_stack_machine(rng, STATES, SYMBOLS), STATES, SYMBOLS))

    def test_arguments_stay(self):
        first, second, machine = table_of(MACHINE, STATES, SYMBOLS), copy.deepcopy(EVEN), copy.deepcopy(MACHINE)
        given = copy.deepcopy((first, second, machine))
        for action in (meet, union, minus, difference):
            self.assertEqual(action(first, second), action(first, second))
        for action in (least, machine_of):
            self.assertEqual(action(first), action(first))
        table_of(machine, STATES, SYMBOLS)
        has(first, (0, ()))
        self.assertEqual((first, second, machine), given)


if __name__ == "__main__":
    unittest.main()
