import itertools
import random
import unittest

from calltowers.order import rank
from calltowers.pushdowns import head_of, rules_of, use
from calltowers.stacks import accepts, is_plain, predecessors, successors, takes_backwards, takes_forwards
from tests.samples import ALL_FORMS, DEEP


def without(machine, edge):
    return (tuple(other for other in machine[0] if other != edge), machine[1])


class AcceptsTest(unittest.TestCase):
    def test_empty_stack(self):
        machine = ((("p", "s", "f"),), ("f", "q"))
        self.assertIs(accepts(machine, ("q", ())), True)
        self.assertIs(accepts(machine, ("f", ())), True)
        self.assertIs(accepts(machine, ("p", ())), False)
        self.assertIs(accepts(machine, ("nowhere", ())), False)
        self.assertIs(accepts(((), ()), ("p", ())), False)
        self.assertIs(accepts(((), ("p",)), ("p", ())), True)

    def test_along_the_symbols(self):
        machine = ((("p", "s", "n"), ("n", "t", "f"), ("f", "s", "f")), ("f",))
        for stack, expected in ((("s",), False), (("s", "t"), True), (("t", "s"), False), (("s", "t", "s"), True),
                                (("s", "t", "s", "s", "s"), True), (("s", "t", "t"), False), (("x",), False),
                                (("t",), False)):
            self.assertIs(accepts(machine, ("p", stack)), expected, stack)
            self.assertIs(accepts(machine, ("q", stack)), False, stack)
        self.assertIs(accepts(machine, ("n", ("t",))), True)

    def test_several_ways(self):
        machine = ((("p", "s", "a"), ("p", "s", "b"), ("a", "s", "dead"), ("b", "s", "c"), ("c", "t", "f"),
                    ("a", "t", "f")), ("f",))
        for stack, expected in ((("s", "s", "t"), True), (("s", "t"), True), (("s", "s"), False), (("s", "s", "s"), False)):
            self.assertIs(accepts(machine, ("p", stack)), expected, stack)

    def test_edges_labelled_none(self):
        machine = ((("p", None, "a"), ("a", "s", "b"), ("b", None, "c"), ("c", None, "d"), ("d", "t", "e"),
                    ("e", None, "f")), ("f",))
        for stack, expected in (((), False), (("s",), False), (("s", "t"), True), (("t",), False), (("s", "t", "t"), False)):
            self.assertIs(accepts(machine, ("p", stack)), expected, stack)
        self.assertIs(accepts(machine, ("e", ())), True)
        self.assertIs(accepts(machine, ("c", ("t",))), True)
        self.assertIs(accepts(machine, ("b", ())), False)

    def test_edges_labelled_none_in_circles(self):
        machine = ((("p", None, "a"), ("a", None, "p"), ("a", None, "a"), ("a", "s", "b"), ("b", None, "p"),
                    ("p", "t", "c"), ("c", None, "d"), ("d", None, "c")), ("d",))
        for stack, expected in (((), False), (("t",), True), (("s", "t"), True), (("s", "s", "s", "t"), True),
                                (("s",), False), (("t", "t"), False)):
            for state in ("p", "a"):
                self.assertIs(accepts(machine, (state, stack)), expected, (state, stack))

    def test_a_deep_stack(self):
        machine = ((("p", "s", "p"), ("p", "t", "f")), ("f",))
        self.assertIs(accepts(machine, ("p", ("s",) * 3000 + ("t",))), True)
        self.assertIs(accepts(machine, ("p", ("s",) * 3000)), False)

    def test_edges_told_twice(self):
        machine = ((("p", "s", "f"), ("p", "s", "f")), ("f", "f"))
        self.assertIs(accepts(machine, ("p", ("s",))), True)

    def test_nodes_of_other_kinds(self):
        machine = ((((0, None), ("main", 0), 5), (5, -1, ("mid", None))), (("mid", None),))
        self.assertIs(accepts(machine, ((0, None), (("main", 0), -1))), True)
        self.assertIs(accepts(machine, ((0, None), (("main", 0),))), False)


class PlainTest(unittest.TestCase):
    RULES = (("p", "s", "q", (), 0), ("p", "s", "r", ("s", "s"), 0))

    def test_plain(self):
        self.assertIs(is_plain(self.RULES, ((), ())), True)
        self.assertIs(is_plain(self.RULES, ((("p", "s", "f"), ("q", "s", "n"), ("n", None, "n")), ("p", "q"))), True)
        self.assertIs(is_plain((), ((("p", "s", "p"),), ())), True)
        self.assertIs(is_plain(self.RULES, ((("p", "s", "s"),), ())), True)

    def test_not_plain(self):
        for state in ("p", "q", "r"):
            for symbol in ("s", "t", None):
                machine = ((("p", "s", "f"), ("n", symbol, state)), ("f",))
                self.assertIs(is_plain(self.RULES, machine), False)


class JudgesTest(unittest.TestCase):
    """Machines that are closed, and the same ones with one edge taken away."""

    def assert_needs(self, judge, rules, machine, needed):
        self.assertIs(judge(rules, machine), True)
        for edge in machine[0]:
            self.assertIs(judge(rules, without(machine, edge)), edge not in needed, edge)

    def test_backwards_without_symbols(self):
        rule = ("p", "s", "q", (), 0)
        self.assert_needs(takes_backwards, (rule,), ((("p", "s", "q"), ("q", "s", "f")), ("f",)), [("p", "s", "q")])
        self.assertIs(takes_backwards((rule,), ((), ())), False)
        # Edges labelled None do not lengthen a way along no symbols.
        self.assertIs(takes_backwards((rule,), ((("p", "s", "q"), ("q", None, "f")), ())), True)
        self.assertIs(takes_backwards((rule,), ((("p", "s", "f"), ("q", None, "f")), ())), False)

    def test_backwards_with_one_symbol(self):
        rule = ("p", "s", "q", ("t",), 0)
        self.assertIs(takes_backwards((rule,), ((), ())), True)
        self.assert_needs(takes_backwards, (rule,), ((("p", "s", "f"), ("p", "s", "n"), ("q", "t", "f")), ("f",)),
                          [("p", "s", "f")])
        machine = ((("p", "s", "f"), ("p", "s", "g"), ("q", "t", "f"), ("q", "t", "g")), ("f",))
        self.assert_needs(takes_backwards, (rule,), machine, machine[0][:2])
        # An edge labelled None counts ahead of the symbol, not behind it.
        machine = ((("p", "s", "f"), ("q", None, "n"), ("n", None, "m"), ("m", "t", "f"), ("f", None, "g")), ())
        self.assert_needs(takes_backwards, (rule,), machine, machine[0][:1])
        # An edge labelled None from p is no edge of the rule.
        self.assertIs(takes_backwards((rule,), ((("p", None, "n"), ("n", "s", "f"), ("q", "t", "f")), ())), False)

    def test_backwards_with_two_symbols(self):
        rule = ("p", "s", "q", ("t", "u"), 0)
        self.assertIs(takes_backwards((rule,), ((("q", "t", "n"), ("m", "u", "f")), ())), True)
        machine = ((("p", "s", "f"), ("q", "t", "n"), ("n", "u", "f"), ("p", "s", "m")), ())
        self.assert_needs(takes_backwards, (rule,), machine, machine[0][:1])
        machine = ((("p", "s", "f"), ("q", None, "k"), ("k", "t", "n"), ("n", None, "m"), ("m", "u", "f"), ("f", None, "g")), ())
        self.assert_needs(takes_backwards, (rule,), machine, machine[0][:1])
        # Two ways along the first symbol.
        machine = ((("p", "s", "f"), ("p", "s", "g"), ("q", "t", "n"), ("q", "t", "m"), ("n", "u", "f"), ("m", "u", "g")), ())
        self.assert_needs(takes_backwards, (rule,), machine, machine[0][:2])
        # The same edge along both symbols.
        rule = ("p", "s", "q", ("t", "t"), 0)
        self.assertIs(takes_backwards((rule,), ((("p", "s", "q"), ("q", "t", "q")), ())), True)
        self.assertIs(takes_backwards((rule,), ((("q", "t", "q"),), ())), False)

    def test_forwards_without_symbols(self):
        rule = ("p", "s", "q", (), 0)
        self.assertIs(takes_forwards((rule,), ((), ())), True)
        self.assertIs(takes_forwards((rule,), ((("p", "t", "n"),), ())), True)
        self.assert_needs(takes_forwards, (rule,), ((("p", "s", "n"), ("q", None, "n")), ()), [("q", None, "n")])
        # n is q.
        self.assertIs(takes_forwards((rule,), ((("p", "s", "q"),), ())), True)
        self.assertIs(takes_forwards((rule,), ((("p", "s", "n"),), ())), False)
        # Several edges labelled None.
        machine = ((("p", "s", "n"), ("q", None, "k"), ("k", None, "n"), ("n", None, "k")), ())
        self.assert_needs(takes_forwards, (rule,), machine, machine[0][1:3])
        # Edges labelled None ahead of s.
        machine = ((("p", None, "k"), ("k", "s", "n"), ("q", None, "n")), ())
        self.assert_needs(takes_forwards, (rule,), machine, machine[0][2:])
        # Not along another symbol, and not back.
        self.assertIs(takes_forwards((rule,), ((("p", "s", "n"), ("q", "s", "n"), ("n", None, "q")), ())), False)

    def test_forwards_with_one_symbol(self):
        rule = ("p", "s", "q", ("t",), 0)
        machine = ((("p", "s", "n"), ("q", "t", "n"), ("q", "t", "m")), ())
        self.assert_needs(takes_forwards, (rule,), machine, machine[0][1:2])
        machine = ((("p", None, "k"), ("k", "s", "n"), ("q", None, "l"), ("l", "t", "n")), ())
        self.assert_needs(takes_forwards, (rule,), machine, machine[0][2:])
        # A free way does not end with an edge labelled None.
        self.assertIs(takes_forwards((rule,), ((("p", "s", "n"), ("q", "t", "m"), ("m", None, "n")), ())), False)
        self.assertIs(takes_forwards((rule,), ((("p", "s", "m"), ("m", None, "n"), ("q", "t", "m")), ())), True)
        self.assertIs(takes_forwards((rule,), ((("p", "s", "n"), ("q", None, "n")), ())), False)

    def test_forwards_with_two_symbols(self):
        rule = ("p", "s", "q", ("t", "u"), 0)
        machine = ((("p", "s", "n"), ("q", "t", "m"), ("m", "u", "n"), ("q", "t", "k")), ())
        self.assert_needs(takes_forwards, (rule,), machine, machine[0][1:3])
        machine = ((("p", None, "i"), ("i", "s", "n"), ("q", None, "k"), ("k", "t", "m"), ("m", None, "l"), ("l", "u", "n")), ())
        self.assert_needs(takes_forwards, (rule,), machine, machine[0][2:])
        self.assertIs(takes_forwards((rule,), ((("p", "s", "n"), ("q", "t", "n")), ())), False)
        self.assertIs(takes_forwards((rule,), ((("p", "s", "n"), ("q", "t", "m"), ("q", "u", "n")), ())), False)
        machine = ((("p", "s", "n"), ("p", "s", "i"), ("q", "t", "m"), ("m", "u", "n"), ("m", "u", "i")), ())
        self.assert_needs(takes_forwards, (rule,), machine, machine[0][2:])

    def test_all_rules_count(self):
        right, wrong = ("p", "s", "q", ("t",), 0), ("p", "u", "q", ("t",), 0)
        machine = ((("p", "s", "n"), ("q", "t", "n")), ())
        self.assertIs(takes_backwards((right,), machine), True)
        self.assertIs(takes_backwards((wrong,), machine), False)
        self.assertIs(takes_backwards((right, wrong), machine), False)
        self.assertIs(takes_backwards((wrong, right), machine), False)
        right, wrong = ("p", "s", "q", ("t",), 0), ("p", "s", "q", ("u",), 0)
        self.assertIs(takes_forwards((right,), machine), True)
        self.assertIs(takes_forwards((wrong,), machine), False)
        self.assertIs(takes_forwards((right, wrong), machine), False)
        self.assertIs(takes_forwards((wrong, right), machine), False)

    def test_no_rule(self):
        for machine in (((), ()), ((("p", "s", "q"), ("q", None, "p")), ("p",))):
            self.assertIs(takes_backwards((), machine), True)
            self.assertIs(takes_forwards((), machine), True)


class SmallMachinesTest(unittest.TestCase):
    PUSH = ("p", "s", "q", ("t", "s"), 0)
    SWAP = ("q", "t", "q", ("u",), 1)
    POP = ("q", "u", "p", (), 0)

    def test_predecessors(self):
        rules = (self.PUSH, self.SWAP, self.POP)
        machine = ((("q", "u", "f"),), ("f",))
        self.assertEqual(predecessors(rules, machine), (
            (("q", "t", "f"), ("q", "t", "p"), ("q", "u", "f"), ("q", "u", "p")), ("f",)))
        machine = ((("p", "s", "f"),), ("f",))
        self.assertEqual(predecessors(rules, machine), (
            (("p", "s", "f"), ("q", "t", "p"), ("q", "u", "p")), ("f",)))
        machine = ((("q", "u", "n"), ("n", "s", "f")), ("f",))
        self.assertEqual(predecessors(rules, machine), (
            (("n", "s", "f"), ("p", "s", "f"), ("q", "t", "n"), ("q", "t", "p"), ("q", "u", "n"), ("q", "u", "p")), ("f",)))

    def test_predecessors_without_edges(self):
        self.assertEqual(predecessors((self.PUSH, self.SWAP, self.POP), ((), ("p",))), (
            (("q", "t", "p"), ("q", "u", "p")), ("p",)))
        self.assertEqual(predecessors((self.PUSH,), ((), ())), ((), ()))
        self.assertEqual(predecessors((("p", "s", "p", (), 0),), ((), ("p",))), ((("p", "s", "p"),), ("p",)))

    def test_predecessors_with_edges_labelled_none(self):
        machine = ((("q", None, "n"), ("n", "t", "m"), ("m", None, "k"), ("k", "s", "f"), ("f", None, "g")), ("g",))
        self.assertEqual(predecessors((self.PUSH,), machine), (
            (("f", None, "g"), ("k", "s", "f"), ("m", None, "k"), ("n", "t", "m"), ("p", "s", "f"), ("q", None, "n")), ("g",)))
        machine = ((("q", None, "n"), ("n", "u", "m")), ("m",))
        self.assertEqual(predecessors((self.SWAP, self.PUSH), machine), (
            (("n", "u", "m"), ("q", None, "n"), ("q", "t", "m")), ("m",)))
        # An edge labelled None from q counts only ahead of a symbol.
        machine = ((("p", None, "n"),), ("n",))
        self.assertEqual(predecessors((self.POP,), machine), ((("p", None, "n"), ("q", "u", "p")), ("n",)))

    def test_successors(self):
        rules = (self.PUSH, self.SWAP, self.POP)
        middle = ("mid", "q", "t")
        machine = ((("p", "s", "f"),), ("f",))
        self.assertEqual(successors(rules, machine), (
            (("p", None, middle), ("p", "s", "f"), ("q", "t", middle), ("q", "u", middle), (middle, "s", "f")), ("f",)))
        machine = ((("q", "t", "n"), ("n", "s", "f")), ("f",))
        self.assertEqual(successors((self.SWAP, self.POP), machine), (
            (("n", "s", "f"), ("p", None, "n"), ("q", "t", "n"), ("q", "u", "n")), ("f",)))

    def test_successors_without_edges(self):
        self.assertEqual(successors((self.PUSH, self.SWAP, self.POP), ((), ("p",))), ((), ("p",)))
        self.assertEqual(successors((self.PUSH,), ((("q", "s", "n"),), ())), ((("q", "s", "n"),), ()))

    def test_no_rule(self):
        machine = (((("b",), "s", "n"), ("p", "t", 1), ("p", "s", 1), ("p", "s", 0)), ("z", 3, ("a",)))
        expected = ((("p", "s", 0), ("p", "s", 1), ("p", "t", 1), (("b",), "s", "n")), (3, "z", ("a",)))
        self.assertEqual(predecessors((), machine), expected)
        self.assertEqual(successors((), machine), expected)
        self.assertEqual(predecessors((), ((), ())), ((), ()))
        self.assertEqual(successors((), ((), ())), ((), ()))

    def test_told_twice(self):
        rules = (self.SWAP, self.SWAP, ("q", "t", "q", ("u",), 0))
        machine = ((("q", "u", "f"), ("q", "u", "f")), ("f", "e", "f"))
        self.assertEqual(predecessors(rules, machine), ((("q", "t", "f"), ("q", "u", "f")), ("e", "f")))
        machine = ((("q", "t", "f"), ("q", "t", "f")), ("f", "e", "f"))
        self.assertEqual(successors(rules, machine), ((("q", "t", "f"), ("q", "u", "f")), ("e", "f")))

    def test_an_edge_that_comes_late(self):
        # The second symbol of PUSH can be read only behind an edge that another rule adds.
        rules = (("p", "s", "q", ("t", "s"), 0), ("r", "s", "p", ("v",), 0), ("q", "t", "r", (), 0))
        machine = ((("p", "v", "f"),), ("f",))
        self.assertEqual(predecessors(rules, machine), (
            (("p", "s", "f"), ("p", "v", "f"), ("q", "t", "r"), ("r", "s", "f")), ("f",)))

    def test_arguments_stay(self):
        rules = [self.PUSH, self.SWAP, self.POP]
        machine = ((("p", "s", "f"),), ("f",))
        for function in (predecessors, successors):
            function(rules, machine)
        self.assertEqual(rules, [self.PUSH, self.SWAP, self.POP])
        self.assertEqual(machine, ((("p", "s", "f"),), ("f",)))


# Slow ways to find the same things, as the points tell them.

def slow_free(edges, nodes):
    nodes = set(nodes)
    while True:
        more = {n for (m, symbol, n) in edges if symbol is None and m in nodes} - nodes
        if not more:
            return nodes
        nodes |= more


def slow_along(edges, node, symbols):
    nodes = {node}
    for symbol in symbols:
        free = slow_free(edges, nodes)
        nodes = {n for (m, s, n) in edges if m in free and s == symbol}
    return nodes


def slow_backwards(rules, edges):
    return {(p, s, n) for p, s, q, w, _ in rules for n in slow_along(edges, q, w)}


def slow_takes_forwards(rules, edges):
    for p, s, q, w, _ in rules:
        ends = slow_along(edges, q, w) if w else slow_free(edges, [q])
        if not slow_along(edges, p, (s,)) <= ends:
            return False
    return True


def slow_forwards(rules, edges):
    more = set()
    for p, s, q, w, _ in rules:
        for n in slow_along(edges, p, (s,)):
            if not w:
                more.add((q, None, n))
            elif len(w) == 1:
                more.add((q, w[0], n))
            else:
                more |= {(q, w[0], ("mid", q, w[0])), (("mid", q, w[0]), w[1], n)}
    return more


def least(function, rules, machine):
    edges = set(machine[0])
    while not function(rules, edges) <= edges:
        edges |= function(rules, edges)
    return (tuple(sorted(edges, key=rank)), tuple(sorted(set(machine[1]), key=rank)))


STATES = ("p", "q", 0)
SYMBOLS = ("s", "t")


def random_rules(chance):
    rules = []
    for _ in range(chance.randrange(1, 6)):
        w = tuple(chance.choice(SYMBOLS) for _ in range(chance.randrange(3)))
        rules.append((chance.choice(STATES), chance.choice(SYMBOLS), chance.choice(STATES), w, 0))
    return tuple(rules)


def random_machine(chance, targets, symbols, many):
    nodes = STATES + ("n", "m", "f")
    edges = tuple((chance.choice(nodes), chance.choice(symbols), chance.choice(targets))
                  for _ in range(chance.randrange(many)))
    return (edges, tuple(chance.choice(nodes) for _ in range(chance.randrange(3))))


def stacks(most):
    return [stack for many in range(most + 1) for stack in itertools.product(SYMBOLS, repeat=many)]


class RandomMachinesTest(unittest.TestCase):
    INNER = ("n", "m", "f")

    def test_judges(self):
        chance = random.Random(1)
        taken = [0, 0]
        for _ in range(3000):
            rules = random_rules(chance)[:chance.randrange(1, 3)]
            machine = random_machine(chance, STATES + self.INNER, SYMBOLS + (None,), 12)
            edges = set(machine[0])
            backwards = slow_backwards(rules, edges) <= edges
            forwards = slow_takes_forwards(rules, edges)
            self.assertIs(takes_backwards(rules, machine), backwards, (rules, machine))
            self.assertIs(takes_forwards(rules, machine), forwards, (rules, machine))
            taken[0] += backwards
            taken[1] += forwards
        self.assertTrue(all(100 < many < 2900 for many in taken), taken)

    def test_predecessors(self):
        chance = random.Random(2)
        for _ in range(600):
            rules = random_rules(chance)
            machine = random_machine(chance, self.INNER, SYMBOLS + (None,), 8)
            before = predecessors(rules, machine)
            self.assertEqual(before, least(slow_backwards, rules, machine), (rules, machine))
            self.assertIs(takes_backwards(rules, before), True)

    def test_successors(self):
        chance = random.Random(3)
        for _ in range(600):
            rules = random_rules(chance)
            machine = random_machine(chance, self.INNER, SYMBOLS, 8)
            after = successors(rules, machine)
            self.assertEqual(after, least(slow_forwards, rules, machine), (rules, machine))
            self.assertIs(takes_forwards(rules, after), True)

    def test_what_plays_reach(self):
        # Stacks of at most two symbols are compared; plays may use up to seven.
        chance = random.Random(4)
        for _ in range(25):
            rules = random_rules(chance)
            machine = random_machine(chance, self.INNER, SYMBOLS, 6)
            everything = [(p, stack) for p in STATES for stack in stacks(7)]
            small = [configuration for configuration in everything if len(configuration[1]) <= 2]
            begin = {configuration for configuration in everything if accepts(machine, configuration)}
            steps = [(one, use(rule, one)) for one in everything for rule in rules if use(rule, one) is not None]
            after, before = successors(rules, machine), predecessors(rules, machine)
            self.assertEqual([one for one in small if accepts(after, one)],
                             [one for one in small if one in closure(begin, steps)])
            self.assertEqual([one for one in small if accepts(before, one)],
                             [one for one in small if one in closure(begin, [(b, a) for a, b in steps])])

    def test_rules_of_programs(self):
        for told in (DEEP, ALL_FORMS):
            rules = rules_of(told)
            state, symbol = head_of(told)
            machine = (((state, symbol, "f"),), ("f",))
            self.assertIs(is_plain(rules, machine), True)
            after = successors(rules, machine)
            self.assertIs(takes_forwards(rules, after), True)
            self.assertEqual(after, least(slow_forwards, rules, machine))
            for edge in after[0][::7]:
                smaller = without(after, edge)
                self.assertIs(takes_forwards(rules, smaller), slow_takes_forwards(rules, set(smaller[0])))
            ended = tuple({rule[2] for rule in rules if not rule[3]})
            before = predecessors(rules, ((), ended))
            self.assertIs(takes_backwards(rules, before), True)
            self.assertIs(accepts(before, (state, (symbol,))), True)
            self.assertEqual(before, least(slow_backwards, rules, ((), ended)))

    def test_what_a_recursion_reaches(self):
        rules = rules_of(DEEP)
        state, symbol = head_of(DEEP)
        after = successors(rules, (((state, symbol, "f"),), ("f",)))
        tower = (("p", 0, (0,)),) + (("p", -3, (1,)),) * 30 + (("main", -1, ()),)
        self.assertIs(accepts(after, (((0,), None), tower)), True)
        self.assertIs(accepts(after, (((1,), None), tower)), False)
        self.assertIs(accepts(after, (((0,), 1), tower[1:])), True)
        self.assertIs(accepts(after, (((0,), None), tower[:-1])), False)
        self.assertIs(accepts(after, (((1,), 0), ())), True)
        self.assertIs(accepts(after, (((1,), 1), ())), False)


def closure(begin, steps):
    found = set(begin)
    leads = {}
    for one, other in steps:
        leads.setdefault(one, []).append(other)
    waiting = list(begin)
    while waiting:
        for other in leads.get(waiting.pop(), []):
            if other not in found:
                found.add(other)
                waiting.append(other)
    return found


if __name__ == "__main__":
    unittest.main()
