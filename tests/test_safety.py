import copy
import unittest

from calltowers.order import rank
from calltowers.pushdowns import head_of, play, rules_of, use
from calltowers.rounds import length, written_out
from calltowers.safety import safety, takes_safety
from calltowers.stacks import accepts, successors, takes_forwards
from tests.chance import chance, some_danger, some_program
from tests.reference import all_plays, least_costs
from tests.samples import DEEP, ONE, ZERO, program, var


def call(proc, *args):
    return ("call", proc, args, "")


def say(word):
    return ("say", word)


# It calls p, comes back, and says b; then it calls q, which never comes back.
CALLS = program((call("p"), say("b"), call("q")), {"p": ((), (), (say("a"),)), "q": ((), (), (("while", ONE, ()),))})
# g becomes 1 in a call in a call.
FLAGS = program((call("p"), call("q")), {"p": ((), (), (call("q"),)), "q": ((), (), (("pick", "g"),))}, ("g",))


def start_of(told):
    state, symbol = head_of(told)
    return (state, (symbol,))


def states_of(told):
    return sorted({state for p, _, q, _, _ in rules_of(told) for state in (p, q)}, key=rank)


def symbols_of(told):
    return sorted({near for _, s, _, w, _ in rules_of(told) for near in (s,) + w}, key=rank)


def danger_on_top(told, is_wanted, below=True):
    """The danger of all configurations whose top frame is a wanted one; with anything below, or with nothing."""
    edges = [(state, symbol, "x") for state in states_of(told) for symbol in symbols_of(told) if is_wanted(state, symbol)]
    return (tuple(edges) + (tuple(("x", symbol, "x") for symbol in symbols_of(told)) if below else ()), ("x",))


def at_point(proc, point):
    return lambda state, symbol: symbol[:2] == (proc, point)


class SafetyCase(unittest.TestCase):
    def assert_reached(self, told, danger, size):
        word, tale = safety(told, danger)
        self.assertEqual(word, "reached")
        self.assertEqual(length(*tale), size)
        numbers = written_out(*tale, size)
        after = play(rules_of(told), start_of(told), numbers)
        self.assertIs(accepts(danger, after), True)
        return after

    def assert_safe(self, told, danger):
        word, paper = safety(told, danger)
        self.assertEqual(word, "safe")
        rules = rules_of(told)
        self.assertIs(takes_forwards(rules, paper), True)
        self.assertIs(accepts(paper, start_of(told)), True)
        self.assertIs(takes_safety(told, danger, paper), True)
        self.assertEqual(list(paper[0]), sorted(set(paper[0]), key=rank))
        self.assertEqual(list(paper[1]), sorted(set(paper[1]), key=rank))
        return paper


class SafetyTest(SafetyCase):
    def test_at_once(self):
        for told in (CALLS, FLAGS, DEEP, program()):
            after = self.assert_reached(told, danger_on_top(told, at_point("main", 0)), 0)
            self.assertEqual(after, start_of(told))
            self.assertEqual(safety(told, danger_on_top(told, at_point("main", 0)))[1], ((), ()))

    def test_in_a_call_and_behind_it(self):
        self.assert_reached(CALLS, danger_on_top(CALLS, at_point("p", 0)), 1)
        self.assert_reached(CALLS, danger_on_top(CALLS, at_point("main", 1)), 4)
        self.assert_reached(CALLS, danger_on_top(CALLS, at_point("main", 2)), 5)
        self.assert_reached(CALLS, danger_on_top(CALLS, at_point("q", 0)), 6)
        self.assert_safe(CALLS, danger_on_top(CALLS, at_point("main", 3)))
        self.assert_safe(CALLS, danger_on_top(CALLS, at_point("q", 1)))

    def test_what_is_below_the_top(self):
        # q is called by main only behind the end of p, and by p at once.
        symbols = symbols_of(FLAGS)
        waits = {proc: [symbol for symbol in symbols if symbol[0] == proc and symbol[1] < 0] for proc in ("main", "p")}
        tops = [(state, symbol, "x") for state in states_of(FLAGS) for symbol in symbols if symbol[0] == "q"]
        ends = [("y", symbol, "y") for symbol in symbols]
        danger = (tuple(tops + [("x", symbol, "y") for symbol in waits["main"]] + ends), ("y",))
        self.assert_reached(FLAGS, danger, 1 + 1 + 2 + 1 + 1 + 1 + 1)
        danger = (tuple(tops + [("x", symbol, "y") for symbol in waits["p"]] + ends), ("y",))
        self.assert_reached(FLAGS, danger, 2)
        # Nothing waits below a call of main, and p does not wait below p.
        danger = (tuple(tops + [("x", symbol, "z") for symbol in waits["main"]] + [("z", symbol, "y") for symbol in symbols]), ("y",))
        self.assert_safe(FLAGS, danger)

    def test_only_with_an_empty_stack(self):
        ended = tuple(state for state in states_of(FLAGS) if state[1] is not None)
        after = self.assert_reached(FLAGS, ((), ended), 12)
        self.assertEqual(after[1], ())
        # It ends with 0 only, and with g being 0 or 1.
        self.assertEqual(safety(FLAGS, ((), (((1,), 1),)))[0], "safe")
        for g in (0, 1):
            self.assert_reached(FLAGS, ((), (((g,), 0),)), 12)
        self.assert_safe(CALLS, ((), tuple(states_of(CALLS))))
        self.assert_safe(FLAGS, ((), (((0,), None), ((1,), None))))
        # Both the empty stack and others are dangerous: the nearer one is told.
        danger = danger_on_top(FLAGS, at_point("main", 1))
        self.assert_reached(FLAGS, (danger[0], danger[1] + ended), 7)
        danger = danger_on_top(FLAGS, at_point("main", 2))
        self.assert_reached(FLAGS, (danger[0], danger[1] + ended), 11)
        self.assert_safe(program((("while", ONE, ()),)), ((), (((), 0), ((), 1))))

    def test_a_stack_of_any_depth(self):
        # An even number of frames below the top one, which is p at its beginning.
        symbols = symbols_of(DEEP)
        tops = [(state, symbol, "x") for state in states_of(DEEP) for symbol in symbols if symbol[:2] == ("p", 0)]
        pairs = [(start, symbol, end) for start, end in (("x", "y"), ("y", "x")) for symbol in symbols]
        self.assert_reached(DEEP, (tuple(tops + pairs), ("y",)), 1)
        self.assert_reached(DEEP, (tuple(tops + pairs), ("x",)), 4)
        chain = [(at, symbol, at + 1) for at in range(10) for symbol in symbols]
        tops = [(state, symbol, 0) for state, symbol, _ in tops]
        after = self.assert_reached(DEEP, (tuple(tops + chain), (9,)), 1 + 3 * 8)
        self.assertEqual(len(after[1]), 10)

    def test_a_state_alone(self):
        # Whatever the stack is: g is 1.
        symbols = symbols_of(FLAGS)
        wanted = [state for state in states_of(FLAGS) if state[0] == (1,)]
        edges = [(state, symbol, "x") for state in wanted for symbol in symbols] + [("x", symbol, "x") for symbol in symbols]
        after = self.assert_reached(FLAGS, (tuple(edges), ("x",) + tuple(wanted)), 3)
        self.assertEqual(after[0], ((1,), None))
        told = program((("set", "g", ZERO), call("p")), {"p": ((), (), ())}, ("g",))
        edges = [(((1,), result), symbol, "x") for result in (None, 0, 1) for symbol in symbols_of(told)]
        self.assert_safe(told, (tuple(edges) + (("x", symbols_of(told)[0], "x"),), ("x", ((1,), None))))

    def test_edges_labelled_none(self):
        symbols = symbols_of(CALLS)
        waiting = [symbol for symbol in symbols if symbol[1] == -1]
        edges = [(state, None, "x") for state in states_of(CALLS)] + [("x", symbol, "y") for symbol in symbols if symbol[:2] == ("p", 1)]
        edges += [("y", None, "z"), ("z", None, "y")] + [("z", symbol, 5) for symbol in waiting] + [(5, None, ("end", 0))]
        self.assert_reached(CALLS, (tuple(edges), (("end", 0),)), 2)
        self.assert_safe(CALLS, (tuple(edges), ("y",)))
        # The way to a final node may be without symbols altogether.
        self.assert_reached(FLAGS, (tuple((state, None, "x") for state in states_of(FLAGS)), ("x",)), 12)

    def test_no_edges_or_finals(self):
        for told in (CALLS, FLAGS, DEEP):
            danger = danger_on_top(told, at_point("main", 0))
            self.assert_safe(told, ((), ()))
            self.assert_safe(told, ((), ("x",)))
            self.assert_safe(told, (danger[0], ()))
            self.assert_safe(told, (danger[0], ("nowhere",)))

    def test_the_fewest_rules(self):
        told = program((("either", (say("a"), say("a"), say("a"), say("a"), say("b")), (call("p"), say("b"))),), {"p": ((), (), ())})
        says = [("main", 5), ("main", 7)]
        self.assert_reached(told, danger_on_top(told, lambda state, symbol: symbol[:2] in says), 4)
        told = program((("either", (say("a"), say("a"), say("b")), (call("p"), say("b"))),), {"p": ((), (), ())})
        says = [("main", 3), ("main", 5)]
        self.assert_reached(told, danger_on_top(told, lambda state, symbol: symbol[:2] in says), 3)

    def test_a_tale_that_is_far_too_long(self):
        names = ("pa", "pb", "pc", "pd", "pe")
        procs, size = {"pe": ((), (), ())}, 1
        for name, below in zip(names[-2::-1], names[:0:-1]):
            procs[name] = ((), (), (call(below),) * 39)
            size = 39 * (2 + size) + 1
        told = program((call("pa"), call("pa")), procs)
        word, tale = safety(told, danger_on_top(told, at_point("main", 2)))
        self.assertEqual((word, length(*tale)), ("reached", 2 * (2 + size)))
        self.assertLess(sum(len(part) for part in tale[0]), 1000)

    def test_by_chance(self):
        words = {}
        for seed in range(250):
            rng = chance(seed)
            told = some_program(rng, seed % 2 == 0)
            steps = all_plays(told, 300)
            costs = None if steps is None else least_costs(steps, start_of(told), 0, lambda cost, number, after: cost + 1)[0]
            for _ in range(3):
                danger = some_danger(rng, rules_of(told))
                answer = safety(told, danger)
                words[answer[0]] = words.get(answer[0], 0) + 1
                near = [cost for place, cost in (costs or {}).items() if accepts(danger, place)]
                if answer[0] == "safe":
                    self.assert_safe(told, danger)
                    self.assertEqual(near, [])
                else:
                    size = min(near) if costs else length(*answer[1])
                    self.assert_reached(told, danger, size)
                    if costs is None:
                        self.assert_nothing_nearer(told, danger, min(size, 12))
        self.assertGreater(min(words["safe"], words["reached"]), 100)

    def assert_nothing_nearer(self, told, danger, size):
        places = {start_of(told)}
        for _ in range(size):
            self.assertEqual([near for near in places if accepts(danger, near)], [])
            places = {use(rule, near) for near in places for rule in rules_of(told)} - {None}


class TakesSafetyTest(SafetyCase):
    def test_each_condition(self):
        danger = danger_on_top(CALLS, at_point("main", 3))
        paper = self.assert_safe(CALLS, danger)
        edges, finals = paper
        # Nothing is accepted: neither the first configuration.
        self.assertIs(takes_forwards(rules_of(CALLS), ((), ())), True)
        self.assertIs(takes_safety(CALLS, danger, ((), ())), False)
        self.assertIs(takes_safety(CALLS, danger, (edges, ())), False)
        # An edge is missing, so that it is not closed forwards.
        state, symbol = head_of(CALLS)
        first = ((state, symbol, "end"),)
        self.assertIs(accepts((first, finals), start_of(CALLS)), True)
        self.assertIs(takes_safety(CALLS, danger, (first, finals)), False)
        for missing in edges:
            kept = tuple(edge for edge in edges if edge != missing)
            taken = takes_forwards(rules_of(CALLS), (kept, finals)) and accepts((kept, finals), start_of(CALLS))
            self.assertIs(takes_safety(CALLS, danger, (kept, finals)), taken)
        # It accepts what the danger accepts, too.
        for more in danger_on_top(CALLS, at_point("main", 3), False)[0]:
            wide = successors(rules_of(CALLS), (first + (more[:2] + ("end",),), ("end",)))
            self.assertIs(takes_forwards(rules_of(CALLS), wide), True)
            self.assertIs(takes_safety(CALLS, danger, wide), False)
            self.assertIs(takes_safety(CALLS, ((), ("x",)), wide), True)

    def test_other_papers(self):
        danger = danger_on_top(CALLS, at_point("main", 3))
        edges, finals = self.assert_safe(CALLS, danger)
        more = (("far", ("main", 3, ()), "further"), ("further", None, "far"))
        self.assertIs(takes_safety(CALLS, danger, (edges[::-1] + more + edges, finals + ("far", "further"))), True)
        # All frames but those at this point, in any order.
        symbols = [symbol for symbol in symbols_of(CALLS) if symbol[:2] != ("main", 3)]
        loop = [("n", symbol, "n") for symbol in symbols] + [(state, symbol, "n") for state in states_of(CALLS) for symbol in symbols]
        loop += [(state, None, "n") for state in states_of(CALLS)]
        self.assertIs(takes_safety(CALLS, danger, (tuple(loop), ("n",))), False)
        # Only as main never comes behind its last call, this is closed forwards.
        loop = [edge for edge in loop if edge[1] is None or edge[1][:2] != ("main", -3)]
        self.assertIs(takes_safety(CALLS, danger, (tuple(loop), ("n",))), False)
        told = program((("while", ONE, (say("a"),)),))
        state, symbols = ((), None), symbols_of(told)
        turn = tuple((state, symbol, "n") for symbol in symbols if symbol[1] < 2)
        self.assertIs(takes_safety(told, danger_on_top(told, at_point("main", 2)), (turn, ("n",))), True)
        self.assertIs(takes_safety(told, danger_on_top(told, at_point("main", 1)), (turn, ("n",))), False)
        self.assertIs(takes_safety(told, danger_on_top(told, at_point("main", 2)), (turn + (("n", symbols[0], "n"),), ("n",))), True)

    def test_edges_labelled_none_in_the_paper(self):
        told = program((say("a"), ("while", ONE, ())))
        state = ((), None)
        symbols = symbols_of(told)
        asks = [symbol for symbol in symbols if symbol[1] == 1]
        edges = ((state, None, "a"), ("a", symbols[0], "b"), ("a", asks[0], "c"), ("c", None, "b"))
        danger = danger_on_top(told, at_point("main", 2))
        self.assertIs(takes_safety(told, danger, (edges, ("b",))), False)
        edges += ((state, asks[0], "b"), (state, asks[0], "c"))
        self.assertIs(takes_safety(told, danger, (edges, ("b",))), True)
        self.assertIs(takes_safety(told, danger_on_top(told, at_point("main", 1)), (edges, ("b",))), False)

    def test_only_configurations_with_a_state_of_the_rules_count(self):
        danger = danger_on_top(CALLS, at_point("main", 3))
        edges, finals = self.assert_safe(CALLS, danger)
        strange = (("far", ("main", 0, ()), "x"),)
        self.assertIs(takes_safety(CALLS, (danger[0] + strange, danger[1]), (edges + strange, finals + ("x",))), True)

    def test_stacks_of_any_number_of_symbols(self):
        # Both accept a configuration with a state of the rules in common only if it has 7 symbols, strange ones.
        edges, finals = self.assert_safe(CALLS, ((), ()))
        state = states_of(CALLS)[0]
        danger = tuple((state if at == 0 else ("d", at), "other", ("d", (at + 1))) for at in range(7))
        for size in range(9):
            more = tuple((state if at == 0 else ("e", at), "other", ("e", at + 1)) for at in range(size))
            self.assertIs(takes_safety(CALLS, (danger, (("d", 7),)), (edges + more, finals + (("e", 7),))), size < 7)

    def test_the_empty_stack(self):
        ended = ((), 0)
        told = program((say("a"),))
        paper = self.assert_safe(told, ((), (((), 1),)))
        self.assertIs(takes_safety(told, ((), (ended,)), paper), False)
        self.assertIs(takes_safety(told, ((), (((), None),)), paper), True)
        self.assertIs(takes_safety(told, ((), (((), None),)), (paper[0], paper[1] + (((), None),))), False)

    def test_the_stack_grows_for_ever(self):
        danger = danger_on_top(DEEP, at_point("p", -9))
        paper = self.assert_safe(DEEP, danger)
        self.assertIs(takes_safety(DEEP, danger_on_top(DEEP, at_point("p", 4)), paper), False)
        told = program((call("main"),))
        self.assert_safe(told, danger_on_top(told, at_point("main", 1)))

    def test_by_chance(self):
        taken = 0
        for seed in range(120):
            rng = chance(3000 + seed)
            told = some_program(rng)
            state, symbol = head_of(told)
            reached = successors(rules_of(told), (((state, symbol, "end"),), ("end",)))
            for _ in range(3):
                danger = some_danger(rng, rules_of(told))
                is_safe = safety(told, danger)[0] == "safe"
                taken += is_safe
                self.assertIs(takes_safety(told, danger, reached), is_safe)
        self.assertGreater(taken, 100)

    def test_arguments_stay(self):
        told, danger = copy.deepcopy(CALLS), danger_on_top(CALLS, at_point("main", 3))
        paper = safety(told, danger)[1]
        given = copy.deepcopy((told, danger, paper))
        self.assertEqual(safety(told, danger), ("safe", paper))
        takes_safety(told, danger, paper)
        self.assertEqual((told, danger, paper), given)

    def test_variables(self):
        told = program((("pick", "x"), ("if", var("x"), (call("p", var("x")),), ())), {"p": (("y",), (), (say("a"),))}, (), ("x",))
        self.assert_reached(told, danger_on_top(told, lambda state, symbol: symbol[0] == "p"), 3)
        self.assert_safe(told, danger_on_top(told, lambda state, symbol: symbol[0] == "p" and symbol[2] == (0,)))


if __name__ == "__main__":
    unittest.main()
