import copy
import unittest

from calltowers.endings import endings, met, steps_between
from calltowers.order import rank
from calltowers.pushdowns import head_of, rules_of
from tests.chance import chance, some_pushdown
from tests.reference import plain_endings, plain_met, plain_steps
from tests.samples import DEEP

# Three calls of the same kind, one below the other: "a" puts "b" on "c".
CALLS = (
    ("p", "a", "q", ("b", "c"), 0),
    ("q", "b", "r", (), 1),
    ("q", "b", "t", (), 0),
    ("r", "c", "u", (), 0),
    ("t", "c", "u", ("c",), 0),
    ("u", "c", "u", (), 1),
)


class EndingsTest(unittest.TestCase):
    def test_no_rules(self):
        self.assertEqual(endings(()), [])

    def test_no_symbol(self):
        self.assertEqual(endings((("p", "s", "q", (), 0),)), [("p", "s", "q", 0)])
        self.assertEqual(endings((("p", "s", "p", (), 1),)), [("p", "s", "p", 1)])

    def test_one_symbol(self):
        for m in (0, 1):
            for f in (0, 1):
                rules = (("p", "a", "q", ("b",), m), ("q", "b", "r", (), f))
                self.assertEqual(endings(rules), [("p", "a", "r", max(m, f)), ("q", "b", "r", f)])

    def test_two_symbols(self):
        for marks in ((0, 0, 0), (1, 0, 0), (0, 1, 0), (0, 0, 1), (1, 1, 0)):
            rules = (("p", "a", "q", ("b", "c"), marks[0]), ("q", "b", "r", (), marks[1]), ("r", "c", "u", (), marks[2]))
            self.assertEqual(endings(rules), [
                ("p", "a", "u", max(marks)), ("q", "b", "r", marks[1]), ("r", "c", "u", marks[2])])

    def test_an_ending_with_both_marks(self):
        rules = (("p", "a", "q", (), 1), ("p", "a", "q", (), 0))
        self.assertEqual(endings(rules), [("p", "a", "q", 0), ("p", "a", "q", 1)])
        self.assertEqual(endings(CALLS), [
            ("p", "a", "u", 1), ("q", "b", "r", 1), ("q", "b", "t", 0), ("r", "c", "u", 0), ("t", "c", "u", 1),
            ("u", "c", "u", 1)])
        both = CALLS + (("u", "c", "u", (), 0),)
        self.assertEqual(endings(both), [
            ("p", "a", "u", 0), ("p", "a", "u", 1), ("q", "b", "r", 1), ("q", "b", "t", 0), ("r", "c", "u", 0),
            ("t", "c", "u", 0), ("t", "c", "u", 1), ("u", "c", "u", 0), ("u", "c", "u", 1)])

    def test_calls_that_never_end(self):
        self.assertEqual(endings((("p", "a", "p", ("a",), 1),)), [])
        self.assertEqual(endings((("p", "a", "p", ("a", "a"), 0),)), [])
        self.assertEqual(endings((("p", "a", "q", ("b", "a"), 0), ("q", "b", "q", ("b",), 0))), [])
        # The first symbol ends, but in a state that has no rule for the second one.
        self.assertEqual(endings((("p", "a", "q", ("b", "c"), 0), ("q", "b", "r", (), 0), ("q", "c", "r", (), 0))),
                         [("q", "b", "r", 0), ("q", "c", "r", 0)])

    def test_recursion(self):
        rules = (("p", "a", "p", ("a", "a"), 0), ("p", "a", "q", (), 1), ("q", "a", "p", (), 0))
        self.assertEqual(endings(rules), [
            ("p", "a", "p", 1), ("p", "a", "q", 1), ("q", "a", "p", 0)])

    def test_order_and_each_once(self):
        rules = (
            ((1, "x"), "s", 10, (), 0), ("p", (None,), 2, (), 1), ("p", 3, 10, (), 1), ("p", 3, 2, (), 1),
            ("p", 3, 2, (), 0), ("p", 3, 2, (), 1), (7, ("s",), (1,), (), 0), ((1,), "s", "q", (), 0),
        )
        self.assertEqual(endings(rules), [
            (7, ("s",), (1,), 0), ("p", 3, 2, 0), ("p", 3, 2, 1), ("p", 3, 10, 1), ("p", (None,), 2, 1),
            ((1,), "s", "q", 0), ((1, "x"), "s", 10, 0)])

    def test_all_heads_also_those_that_nothing_leads_to(self):
        rules = (("p", "a", "q", ("b",), 0), ("z", "z", "z", (), 0))
        self.assertEqual(endings(rules), [("z", "z", "z", 0)])

    def test_like_the_plain_search(self):
        for seed in range(150):
            rules, _ = some_pushdown(chance(seed))
            self.assertEqual(endings(rules), plain_endings(rules), rules)

    def test_arguments_stay_and_lists_are_new(self):
        rules = copy.deepcopy(CALLS)
        found = endings(rules)
        found.append("more")
        self.assertEqual(rules, CALLS)
        self.assertNotEqual(endings(rules), found)

    def test_a_program(self):
        rules = tuple(rule[:4] + (int(rule[4] == ("say", "done")),) for rule in rules_of(DEEP))
        found = endings(rules)
        self.assertEqual(found, plain_endings(rules))
        self.assertEqual({f for p, s, _, f in found if (p, s) == head_of(DEEP)}, {1})


class StepsTest(unittest.TestCase):
    def test_one_symbol(self):
        rules = (("p", "a", "q", ("b",), 1), ("p", "a", "q", ("b",), 0), ("p", "a", "p", (), 1), ("p", "b", "q", ("a",), 0))
        self.assertEqual(steps_between(rules, ("p", "a")), [(("q", "b"), 0), (("q", "b"), 1)])
        self.assertEqual(steps_between(rules, ("p", "b")), [(("q", "a"), 0)])
        self.assertEqual(steps_between(rules, ("q", "b")), [])

    def test_past_a_call_that_ends(self):
        self.assertEqual(steps_between(CALLS, ("p", "a")), [(("q", "b"), 0), (("r", "c"), 1), (("t", "c"), 0)])
        marked = (CALLS[0][:4] + (1,),) + CALLS[1:]
        self.assertEqual(steps_between(marked, ("p", "a")), [(("q", "b"), 1), (("r", "c"), 1), (("t", "c"), 1)])
        # Only what is below the ending matters, not what comes behind it.
        self.assertEqual(steps_between(CALLS[:2], ("p", "a")), [(("q", "b"), 0), (("r", "c"), 1)])

    def test_no_step_past_a_call_that_never_ends(self):
        rules = (("p", "a", "p", ("a", "b"), 0), ("p", "b", "p", ("b",), 1))
        self.assertEqual(steps_between(rules, ("p", "a")), [(("p", "a"), 0)])

    def test_each_once_and_in_order(self):
        rules = (
            (0, "a", 10, ("b",), 0), (0, "a", 2, ("b",), 1), (0, "a", 2, ("a",), 0), (0, "a", 2, (5, "b"), 0),
            (0, "a", 10, ("b", "a"), 0), (2, 5, 2, (), 1), (0, "a", (1,), ("b",), 0),
        )
        self.assertEqual(steps_between(rules, (0, "a")), [
            ((2, 5), 0), ((2, "a"), 0), ((2, "b"), 1), ((10, "b"), 0), (((1,), "b"), 0)])

    def test_met(self):
        self.assertEqual(met(CALLS, ("p", "a")), [("p", "a"), ("q", "b"), ("r", "c"), ("t", "c"), ("u", "c")])
        self.assertEqual(met(CALLS, ("t", "c")), [("t", "c"), ("u", "c")])
        # The head behind a call is met only if the call ends.
        self.assertEqual(met(CALLS[:1] + CALLS[3:], ("p", "a")), [("p", "a"), ("q", "b")])

    def test_a_head_of_which_no_rule_speaks(self):
        self.assertEqual(met(CALLS, ("p", "z")), [("p", "z")])
        self.assertEqual(met((), ("p", "z")), [("p", "z")])
        self.assertEqual(steps_between(CALLS, (("new",), 1)), [])
        self.assertEqual(steps_between((), ("p", "z")), [])

    def test_a_circle(self):
        rules = (("p", "a", "q", ("a",), 0), ("q", "a", "r", ("a",), 0), ("r", "a", "p", ("a",), 1))
        for state in ("p", "q", "r"):
            self.assertEqual(met(rules, (state, "a")), [("p", "a"), ("q", "a"), ("r", "a")])

    def test_like_the_plain_search(self):
        for seed in range(150):
            rules, head = some_pushdown(chance(1000 + seed))
            self.assertEqual(steps_between(rules, head), plain_steps(rules, head), rules)
            self.assertEqual(met(rules, head), plain_met(rules, head), rules)
            self.assertEqual(met(rules, head), sorted(met(rules, head), key=rank))

    def test_lists_are_new(self):
        steps_between(CALLS, ("p", "a")).clear()
        met(CALLS, ("p", "a")).clear()
        self.assertEqual(len(steps_between(CALLS, ("p", "a"))), 3)
        self.assertEqual(len(met(CALLS, ("p", "a"))), 5)


if __name__ == "__main__":
    unittest.main()
