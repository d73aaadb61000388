import unittest

from calltowers.errors import PlayError
from calltowers.order import rank
from calltowers.player import first, step
from calltowers.pushdowns import head_of, play, rules_of, use
from tests.samples import ALL_FORMS, DEEP, ONE, ZERO, program, var

QUIET = ("quiet", "")

PUSH = ("p", "s", "q", ("t", "s"), 0)
SWAP = ("q", "t", "q", ("u",), 1)
POP = ("q", "u", "p", (), ("mark", "any"))
RULES = (PUSH, SWAP, POP)


class UseTest(unittest.TestCase):
    def test_two_one_and_no_symbols(self):
        self.assertEqual(use(PUSH, ("p", ("s",))), ("q", ("t", "s")))
        self.assertEqual(use(PUSH, ("p", ("s", "u"))), ("q", ("t", "s", "u")))
        self.assertEqual(use(SWAP, ("q", ("t", "s", "u"))), ("q", ("u", "s", "u")))
        self.assertEqual(use(POP, ("q", ("u", "s", "u"))), ("p", ("s", "u")))
        self.assertEqual(use(POP, ("q", ("u",))), ("p", ()))

    def test_cannot_be_used(self):
        self.assertIsNone(use(PUSH, ("q", ("s",))))
        self.assertIsNone(use(PUSH, ("p", ("t",))))
        self.assertIsNone(use(PUSH, ("p", ("t", "s"))))
        self.assertIsNone(use(PUSH, ("p", ())))
        self.assertIsNone(use(POP, ("q", ())))

    def test_other_kinds_of_states_and_symbols(self):
        rule = ((0, (None, "a")), 5, 7, ((None,), -1), 0)
        self.assertEqual(use(rule, ((0, (None, "a")), (5, 6))), (7, ((None,), -1, 6)))
        self.assertIsNone(use(rule, ((0, ("a", None)), (5, 6))))
        self.assertIsNone(use(rule, ((0, (None, "a")), ("5",))))


class PlayTest(unittest.TestCase):
    def assert_wrong(self, at, configuration, numbers, rules=RULES):
        with self.assertRaises(PlayError) as caught:
            play(rules, configuration, numbers)
        self.assertEqual(caught.exception.at, at)

    def test_goes_through(self):
        start = ("p", ("s", "v"))
        self.assertEqual(play(RULES, start, []), start)
        self.assertEqual(play(RULES, start, [0]), ("q", ("t", "s", "v")))
        self.assertEqual(play(RULES, start, [0, 1]), ("q", ("u", "s", "v")))
        self.assertEqual(play(RULES, start, [0, 1, 2]), start)
        self.assertEqual(play(RULES, start, [0, 1, 2] * 50 + [0]), ("q", ("t", "s", "v")))
        self.assertEqual(play(RULES, ("p", ()), []), ("p", ()))
        self.assertEqual(play((), ("p", ("s",)), []), ("p", ("s",)))

    def test_arguments_stay(self):
        numbers = [0, 1, 2]
        play(RULES, ("p", ("s",)), numbers)
        self.assertEqual(numbers, [0, 1, 2])

    def test_a_number_that_is_no_index(self):
        start = ("p", ("s",))
        self.assert_wrong(0, start, [3])
        self.assert_wrong(0, start, [-1])
        self.assert_wrong(0, ("q", ("u",)), [-1])
        self.assert_wrong(0, start, [-3])
        self.assert_wrong(1, start, [0, 3])
        self.assert_wrong(2, start, [0, 1, -1, 2])
        self.assert_wrong(3, start, [0, 1, 2, 100, -100])
        self.assert_wrong(0, start, [0], ())

    def test_a_rule_that_cannot_be_used(self):
        start = ("p", ("s",))
        self.assert_wrong(0, start, [1])
        self.assert_wrong(1, start, [0, 0, 1])
        self.assert_wrong(2, start, [0, 1, 1, 7])
        self.assert_wrong(0, ("p", ("t",)), [0])
        self.assert_wrong(0, ("q", ("s",)), [0])
        self.assert_wrong(1, ("q", ("u", "t", "s")), [2, 1])
        self.assert_wrong(0, ("p", ()), [0])
        self.assert_wrong(1, ("q", ("u",)), [2, 0])
        self.assert_wrong(1, ("q", ("u", "t")), [2, 0])

    def test_is_what_use_gives(self):
        rules = rules_of(DEEP)
        state, symbol = head_of(DEEP)
        configuration = (state, (symbol,))
        numbers = []
        for turn in range(400):
            can = [k for k in range(len(rules)) if use(rules[k], configuration) is not None]
            if not can:
                break
            # Down for a while, then up again.
            number = can[-1] if turn < 200 else can[0]
            configuration = use(rules[number], configuration)
            numbers.append(number)
        self.assertGreater(len(numbers), 300)
        self.assertEqual(play(rules, (state, (symbol,)), numbers), configuration)


class RulesTest(unittest.TestCase):
    def test_first_head(self):
        self.assertEqual(head_of(program()), (((), None), ("main", 0, ())))
        self.assertEqual(head_of(program(shared=("g", "h"), own=("x",))), (((0, 0), None), ("main", 0, (0,))))
        self.assertEqual(head_of(DEEP), (((0,), None), ("main", 0, ())))

    def test_an_empty_program(self):
        self.assertEqual(rules_of(program()), ((((), None), ("main", 0, ()), ((), 0), (), ("back", "main")),))

    def test_no_rule_for_what_has_ended(self):
        for told in (program(), DEEP, ALL_FORMS):
            for rule in rules_of(told):
                self.assertIsNone(use(rule, (rule[2], ())))
                self.assertIsNone(use(rule, (rule[0], ())))
            rules = rules_of(told)
            states = {rule[2] for rule in rules if rule[3] == ()}
            self.assertTrue(states)
            for state in states:
                for number in range(len(rules)):
                    with self.assertRaises(PlayError):
                        play(rules, (state, ()), [number])

    def test_choices(self):
        told = program((("pick", "x"), ("either", (("say", "a"),), ())), own=("x",))
        p = ((), None)
        self.assertEqual(rules_of(told), (
            (p, ("main", 0, (0,)), p, (("main", 1, (0,)),), QUIET),
            (p, ("main", 0, (0,)), p, (("main", 1, (1,)),), QUIET),
            (p, ("main", 1, (0,)), p, (("main", 2, (0,)),), QUIET),
            (p, ("main", 1, (0,)), p, (("main", 3, (0,)),), QUIET),
            (p, ("main", 1, (1,)), p, (("main", 2, (1,)),), QUIET),
            (p, ("main", 1, (1,)), p, (("main", 3, (1,)),), QUIET),
            (p, ("main", 2, (0,)), p, (("main", 3, (0,)),), ("say", "a")),
            (p, ("main", 2, (1,)), p, (("main", 3, (1,)),), ("say", "a")),
            (p, ("main", 3, (0,)), ((), 0), (), ("back", "main")),
            (p, ("main", 3, (1,)), ((), 0), (), ("back", "main")),
        ))

    def test_a_rule_of_both_choices_stands_once(self):
        told = program((("either", (), ()),))
        p = ((), None)
        self.assertEqual(rules_of(told), (
            (p, ("main", 0, ()), p, (("main", 1, ()),), QUIET),
            (p, ("main", 1, ()), ((), 0), (), ("back", "main")),
        ))

    def test_the_order_of_choices_is_not_that_of_the_rules(self):
        # The choice 0 leads to a point behind that of the choice 1.
        told = program((("either", (), (("say", "a"),)),))
        p = ((), None)
        self.assertEqual([rule[3] for rule in rules_of(told)[:2]], [(("main", 2, ()),), (("main", 1, ()),)])
        self.assertEqual([rule[:2] for rule in rules_of(told)], [
            (p, ("main", 0, ())), (p, ("main", 0, ())), (p, ("main", 1, ())), (p, ("main", 2, ()))])

    def test_recursion(self):
        zero, one = ((0,), None), ((1,), None)
        zero_zero, zero_one, one_zero, one_one = ((0,), 0), ((0,), 1), ((1,), 0), ((1,), 1)
        down, done = (("p", 0, (0,)), ("p", -3, (1,))), ("say", "done")
        expected = [
            (zero, ("main", 0, ()), zero, (("p", 0, (0,)), ("main", -1, ())), ("call", "p")),
            (zero, ("main", 1, ()), zero, (("main", 2, ()),), done),
            (zero, ("main", 2, ()), zero_zero, (), ("back", "main")),
            (zero, ("p", 0, (0,)), zero, (("p", 1, (0,)),), QUIET),
            (zero, ("p", 0, (0,)), zero, (("p", 1, (1,)),), QUIET),
            (zero, ("p", 1, (0,)), zero, (("p", 4, (0,)),), QUIET),
            (zero, ("p", 1, (1,)), zero, (("p", 2, (1,)),), QUIET),
            (zero, ("p", 2, (1,)), zero, down, ("call", "p")),
            (zero, ("p", 3, (1,)), zero_one, (), ("back", "p")),
            (zero, ("p", 4, (0,)), zero_one, (), ("back", "p")),
            # The state behind the back of main meets the frames that wait, too.
            (zero_zero, ("main", -1, ()), zero, (("main", 1, ()),), QUIET),
            (zero_zero, ("p", -3, (1,)), zero, (("p", 3, (1,)),), QUIET),
            (zero_one, ("main", -1, ()), zero, (("main", 1, ()),), QUIET),
            (zero_one, ("p", -3, (1,)), one, (("p", 3, (1,)),), QUIET),
            (one, ("main", 1, ()), one, (("main", 2, ()),), done),
            (one, ("main", 2, ()), one_zero, (), ("back", "main")),
            (one, ("p", 3, (1,)), one_zero, (), ("back", "p")),
            (one_zero, ("main", -1, ()), one, (("main", 1, ()),), QUIET),
            (one_zero, ("p", -3, (1,)), zero, (("p", 3, (1,)),), QUIET),
        ]
        self.assertEqual(list(rules_of(DEEP)), expected)
        self.assertNotIn(one_one, {rule[0] for rule in expected})

    def test_a_call_that_comes_back_never(self):
        # What stands behind the call does not come about, nor a head for the frame that waits.
        told = program((("call", "p", (), ""), ("say", "never")), {"p": ((), (), (("while", ONE, ()),))})
        p = ((), None)
        self.assertEqual(rules_of(told), (
            (p, ("main", 0, ()), p, (("p", 0, ()), ("main", -1, ())), ("call", "p")),
            (p, ("p", 0, ()), p, (("p", 0, ()),), QUIET),
        ))

    def test_a_back_and_a_waiting_frame_in_either_order(self):
        # q comes back before r is called, and s comes back behind both.
        told = program((("call", "q", (), ""), ("call", "r", (), "")),
                       {"q": ((), (), (("back", ONE),)), "r": ((), (), (("back", ZERO),))})
        frames = [rule[:2] for rule in rules_of(told) if rule[0][1] is not None]
        self.assertEqual(frames, [
            (((), 0), ("main", -2, ())), (((), 0), ("main", -1, ())),
            (((), 1), ("main", -2, ())), (((), 1), ("main", -1, ()))])

    def test_is_the_least_set_of_the_point(self):
        for told in (program(), DEEP, ALL_FORMS, AROUND):
            self.assertEqual(list(rules_of(told)), slow_rules(told))

    def test_runs_are_plays(self):
        for told in (DEEP, ALL_FORMS, AROUND):
            by_head = {}
            for rule in rules_of(told):
                by_head.setdefault(rule[:2], []).append(rule)
            waiting = [(first(told), ())]
            seen = set()
            while waiting and len(seen) < 2000:
                configuration, _ = waiting.pop(0)
                if configuration in seen or not configuration[2]:
                    continue
                seen.add(configuration)
                for choice in (0, 1):
                    after, mark = step(told, configuration, choice)
                    told_after = [(use(rule, (configuration[:2], configuration[2])), rule[4])
                                  for rule in by_head[(configuration[:2], configuration[2][0])]]
                    self.assertIn(((after[:2], after[2]), mark), told_after)
                    waiting.append((after, mark))


# Procedures that call each other in a circle, with globals, params and locals.
AROUND = {
    "globals": ("g", "h"),
    "procs": {
        "main": ((), ("x",), (
            ("while", ("not", var("h")), (("call", "p", (var("x"), var("g")), "x"), ("say", "again"))),
            ("back", var("x")),
        )),
        "p": (("a", "b"), (), (
            ("pick", "b"),
            ("if", var("b"), (("call", "q", (("not", var("a")),), "g"),), (("set", "h", ("same", var("a"), var("g"))),)),
            ("back", ("or", var("a"), var("g"))),
        )),
        "q": (("c",), ("d",), (
            ("either", (("call", "p", (var("c"), var("d")), "d"),), (("pick", "g"),)),
            ("set", "d", ("and", var("c"), var("d"))),
            ("back", var("d")),
        )),
    },
}


def slow_rules(told):
    """The rules, found by adding heads until none comes about any more."""
    heads = {head_of(told)}
    while True:
        rules = {head: head_rules(told, head) for head in heads}
        everything = [rule for some in rules.values() for rule in some]
        waits = {rule[3][1] for rule in everything if len(rule[3]) == 2}
        more = {(rule[2], rule[3][0]) for rule in everything if rule[3]}
        more |= {(rule[2], frame) for rule in everything if not rule[3] for frame in waits}
        if more <= heads:
            return [rule for head in sorted(heads, key=rank) for rule in rules[head]]
        heads |= more


def head_rules(told, head):
    (shared, result), frame = head
    rules = []
    for choice in (0, 1):
        after, mark = step(told, (shared, result, (frame,)), choice)
        rule = ((shared, result), frame, after[:2], after[2], mark)
        if rule not in rules:
            rules.append(rule)
    return rules


if __name__ == "__main__":
    unittest.main()
