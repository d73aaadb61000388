import copy
import unittest

from calltowers.prices import depth_needed, few_calls, price
from calltowers.pushdowns import head_of, play, rules_of
from calltowers.rounds import length, written_out
from tests.chance import chance, some_program
from tests.reference import all_plays, least_costs
from tests.samples import DEEP, ONE, ZERO, program, var


def call(proc, *args):
    return ("call", proc, args, "")


def say(word):
    return ("say", word)


def start_of(told):
    state, symbol = head_of(told)
    return (state, (symbol,))


# Three says, or a call and one say; p can say it at once, and main behind it.
EITHER = program((("either", (say("b"), say("b"), say("b"), say("a")), (call("p"), say("a"))),), {"p": ((), (), (say("c"), say("a")))})
# It calls itself as often as the picked flags say; done is said in main.
DEEPER = program((call("p"), say("done")), {"p": ((), ("x",), (("pick", "x"), ("if", var("x"), (call("p"), say("up")), ()), say("a")))})
# The flags are counted in calls of calls: h is 1 only in the fourth one.
FLAGS = program((call("p"),), {"p": ((), (), (
    ("if", var("g"), (("if", var("h"), (say("top"),), (("set", "h", ONE), ("set", "g", ZERO), call("p"))),), (("set", "g", ONE), call("p"))),
))}, ("g", "h"))


class FewCallsTest(unittest.TestCase):
    def assert_tale(self, told, word, expected):
        rules = rules_of(told)
        tale = few_calls(told, word)
        self.assertEqual(price(rules, tale), expected)
        numbers = written_out(*tale, length(*tale))
        play(rules, start_of(told), numbers)
        self.assertEqual(rules[numbers[-1]][4], ("say", word))
        self.assertEqual((sum(len(rules[number][3]) == 2 for number in numbers), len(numbers)), expected)

    def test_at_once(self):
        self.assert_tale(program((say("a"),)), "a", (0, 1))
        self.assert_tale(EITHER, "b", (0, 2))
        self.assert_tale(EITHER, "c", (1, 3))

    def test_more_rules_and_fewer_calls(self):
        self.assert_tale(EITHER, "a", (0, 5))
        told = program((("either", (say("b"),) * 30 + (call("p"),), (call("q"), call("p"))),), {"p": ((), (), (say("a"),)), "q": ((), (), ())})
        self.assert_tale(told, "a", (1, 33))

    def test_of_equally_many_calls_the_fewest_rules(self):
        told = program((("either", (say("b"), call("p")), (("either", (call("q"),), (say("b"), say("b"), call("p"))),)),), {
            "p": ((), (), (say("b"), say("b"), say("b"), say("a"))), "q": ((), (), (say("b"), say("a"))),
        })
        self.assert_tale(told, "a", (1, 5))
        # Within a call that must be made the fewest rules are taken, too.
        told = program((call("p"), say("a")), {"p": ((), (), (("either", (say("b"),) * 4, (say("b"),)), ("either", (call("q"),), (say("b"),) * 3))),
                                                         "q": ((), (), ())})
        self.assert_tale(told, "a", (1, 1 + 1 + 1 + 1 + 3 + 1 + 1 + 1))

    def test_calls_that_come_back_count_too(self):
        told = program((("call", "p", (ZERO,), "g"), ("if", var("g"), (say("a"),), (say("b"),))), {
            "p": (("x",), (), (("either", (("back", var("x")),), (("call", "p", (ONE,), "x"), ("back", var("x")))),)),
        }, ("g",))
        self.assert_tale(told, "b", (1, 6))
        self.assert_tale(told, "a", (2, 10))

    def test_never(self):
        self.assertIsNone(few_calls(EITHER, "zz"))
        self.assertIsNone(few_calls(EITHER, "p"))
        self.assertIsNone(few_calls(program((("while", ONE, (say("b"),)), say("a"))), "a"))
        self.assertIsNone(few_calls(program((), {"p": ((), (), (say("a"),))}), "a"))

    def test_recursion(self):
        self.assert_tale(DEEPER, "up", (2, 10))
        self.assert_tale(DEEPER, "done", (1, 7))
        self.assert_tale(DEEP, "done", (1, 6))

    def test_a_tale_that_is_far_too_long(self):
        names = ("pa", "pb", "pc", "pd", "pe")
        procs, calls, size = {"pe": ((), (), ())}, 0, 1
        for name, below in zip(names[-2::-1], names[:0:-1]):
            procs[name] = ((), (), (call(below),) * 39)
            calls, size = 39 * (1 + calls), 39 * (2 + size) + 1
        told = program((call("pa"),) * 30 + (say("a"),), procs)
        tale = few_calls(told, "a")
        self.assertEqual(price(rules_of(told), tale), (30 * (1 + calls), 30 * (2 + size) + 1))
        self.assertGreater(calls, 10 ** 6)
        self.assertLess(sum(len(part) for part in tale[0]) + len(tale[1]), 1000)

    def test_by_chance(self):
        said = 0
        for seed in range(200):
            told = some_program(chance(seed), seed % 2 == 0)
            rules, steps = rules_of(told), all_plays(told, 300)
            if steps is None:
                for word in "abc":
                    tale = few_calls(told, word)
                    if tale is not None and length(*tale) < 3000:
                        self.assert_tale(told, word, price(rules, tale))
                continue
            least = least_costs(steps, start_of(told), (0, 0), lambda cost, number, after: (
                cost[0] + (len(rules[number][3]) == 2), cost[1] + 1))[1]
            for word in "abc":
                costs = [cost for number, cost in least.items() if rules[number][4] == ("say", word)]
                if costs:
                    self.assert_tale(told, word, min(costs))
                    said += 1
                else:
                    self.assertIsNone(few_calls(told, word))
        self.assertGreater(said, 60)


class PriceTest(unittest.TestCase):
    RULES = (("p", "s", "p", ("s", "s"), 0), ("p", "s", "p", ("s",), 0), ("p", "s", "p", (), 0))

    def test_empty(self):
        self.assertEqual(price(self.RULES, ((), ())), (0, 0))
        self.assertEqual(price((), ((), ())), (0, 0))
        self.assertEqual(price(self.RULES, (((), (-1, -1)), (-2, -1))), (0, 0))

    def test_rules(self):
        self.assertEqual(price(self.RULES, ((), (0, 1, 0, 2, 2))), (2, 5))
        self.assertEqual(price(self.RULES, ((), (1, 1))), (0, 2))

    def test_parts_in_parts(self):
        parts = ((1, 2), (0, -1, 2), (0, -2, -1))
        self.assertEqual(price(self.RULES, (parts, (-3, -3, 0))), (2 * 2 + 1, 2 * 7 + 1))
        # Parts that are told, but not played, count for nothing.
        self.assertEqual(price(self.RULES, (parts, (-1,))), (0, 2))

    def test_far_too_great(self):
        parts = ((0, 2),) + tuple((-1 - at, 1, -1 - at) for at in range(300))
        self.assertEqual(price(self.RULES, (parts, (-301, 0))), (2 ** 300 + 1, 2 * 2 ** 300 + 2 ** 300 - 1 + 1))

    def test_arguments_stay(self):
        rules, tale = copy.deepcopy(self.RULES), (((0, 2),), (1, -1))
        price(rules, tale)
        self.assertEqual((rules, tale), (self.RULES, (((0, 2),), (1, -1))))


class DepthNeededTest(unittest.TestCase):
    def test_one_frame(self):
        self.assertEqual(depth_needed(program((say("a"),)), "a"), 1)
        self.assertEqual(depth_needed(EITHER, "a"), 1)
        self.assertEqual(depth_needed(EITHER, "b"), 1)

    def test_several_frames(self):
        self.assertEqual(depth_needed(EITHER, "c"), 2)
        told = program((call("p"),), {"p": ((), (), (call("q"), say("b"))), "q": ((), (), (call("r"),)), "r": ((), (), (say("a"),))})
        self.assertEqual(depth_needed(told, "a"), 4)

    def test_the_deepest_stack_of_the_whole_play(self):
        # It is said in main, but behind calls in calls; and in p, but behind deeper ones.
        told = program((call("p"), say("b")), {"p": ((), (), (call("q"), say("a"))), "q": ((), (), (call("r"),)), "r": ((), (), (say("c"),))})
        for word in "abc":
            self.assertEqual(depth_needed(told, word), 4)

    def test_as_many_as_flags_allow(self):
        self.assertEqual(depth_needed(FLAGS, "top"), 5)

    def test_the_shortest_way_is_deep_and_a_longer_one_low(self):
        told = program((("either", (call("p"), say("a")), (say("b"),) * 20 + (call("r"), call("r"), say("a"))),), {
            "p": ((), (), (call("q"),)), "q": ((), (), (call("r"),)), "r": ((), (), ()),
        })
        self.assertEqual(depth_needed(told, "a"), 2)
        self.assertEqual(depth_needed(told, "b"), 1)
        # The call can come back from deep or from low; only then it is said.
        told = program((("call", "p", (), "g"), ("if", var("g"), (say("a"),), (say("b"),))), {
            "p": ((), ("x",), (("either", (("call", "q", (), "x"),), (say("c"),) * 9), ("back", var("x")))), "q": ((), (), (call("r"), ("back", ONE))),
            "r": ((), (), ()),
        }, ("g",))
        self.assertEqual(depth_needed(told, "a"), 4)
        self.assertEqual(depth_needed(told, "b"), 2)

    def test_recursion(self):
        self.assertEqual(depth_needed(DEEPER, "a"), 2)
        self.assertEqual(depth_needed(DEEPER, "up"), 3)
        self.assertEqual(depth_needed(DEEPER, "done"), 2)
        self.assertEqual(depth_needed(DEEP, "done"), 2)

    def test_never(self):
        for told in (EITHER, DEEP, program()):
            self.assertIsNone(depth_needed(told, "zz"))
        self.assertIsNone(depth_needed(EITHER, "main"))
        self.assertIsNone(depth_needed(program((("while", ONE, (say("b"),)), say("a"))), "a"))
        self.assertIsNone(depth_needed(program((), {"p": ((), (), (say("a"),))}), "a"))
        self.assertIsNone(depth_needed(program((call("main"), say("a"))), "a"))

    def test_by_chance(self):
        numbers = {}
        for seed in range(300):
            told = some_program(chance(4000 + seed), seed % 2 == 0)
            rules, steps = rules_of(told), all_plays(told, 300)
            if steps is None:
                continue
            least = least_costs(steps, start_of(told), 1, lambda cost, number, after: max(cost, len(after[1])))[1]
            for word in "abc":
                costs = [cost for number, cost in least.items() if rules[number][4] == ("say", word)]
                self.assertEqual(depth_needed(told, word), min(costs, default=None), (told, word))
                numbers[min(costs, default=None)] = True
        self.assertLessEqual({None, 1, 2, 3}, set(numbers))

    def test_arguments_stay(self):
        for sample in (EITHER, DEEPER, FLAGS):
            told = copy.deepcopy(sample)
            self.assertEqual(few_calls(told, "a"), few_calls(told, "a"))
            self.assertEqual(depth_needed(told, "a"), depth_needed(told, "a"))
            self.assertEqual(told, sample)


if __name__ == "__main__":
    unittest.main()
