import copy
import unittest

from calltowers.decide import can_say, decide, depth
from calltowers.product import product
from calltowers.programs import check_program
from calltowers.promises import holds, is_promise
from calltowers.promisetext import read_promise
from calltowers.pushdowns import head_of, play, rules_of, use
from calltowers.rests import takes_rest
from calltowers.rounds import length, takes_round, written_out
from tests.chance import chance, some_program, some_promise, some_rounds
from tests.samples import DEEP, ONE, ZERO, program, var


def call(proc, *args):
    return ("call", proc, args, "")


def loop(*body):
    return ("while", ONE, body)


def say(word):
    return ("say", word)


def always(text):
    return "not (yes until not " + text + ")"


def often(text):
    return always("(yes until " + text + ")")


SAYS = program((loop(say("a")),))
CHOOSES = program((loop(("either", (say("a"),), (say("b"),))),))
CALLS = program((loop(call("p")),), {"p": ((), (), (say("a"),))})
# p calls itself again and again, and nothing ever comes back.
SINKS = program((call("p"),), {"p": ((), (), (say("a"), call("p"), say("b")))})
# p calls itself or comes back; at last main can come back, too, and begins again.
SWIMS = program((loop(call("p"), say("b")),), {"p": ((), (), (("either", (say("a"), call("p")), ()),))})
# p comes back, q never does.
STAYS = program((loop(("either", (call("p"),), (call("q"),))),), {
    "p": ((), (), (say("a"),)),
    "q": ((), (), (loop(say("b")),)),
})
# Each call may stay for ever, or come back, and calls can be made in calls.
MAYBE = program((loop(call("p")),), {
    "p": ((), (), (("either", (call("p"),), ()), ("either", (loop(say("b")),), (say("a"),)))),
})
ENDS = program((("either", (call("p"),), (say("a"),)), say("b")), {"p": ((), (), (say("c"),))})
# The recursion is bounded by the flags g and h.
COUNTS = program((call("p"), say("up")), {
    "p": ((), (), (
        ("if", ("not", var("g")), (("set", "g", ONE), call("p")),
         (("if", ("not", var("h")), (("set", "h", ONE), ("set", "g", ZERO), call("p")), ()),)),
    )),
}, ("g", "h"))


def configuration_of(told):
    state, symbol = head_of(told)
    return (state, (symbol,))


class DecideTest(unittest.TestCase):
    def assert_kept(self, told, *texts):
        for text in texts:
            promise = read_promise(text) if isinstance(text, str) else text
            word, paper = decide(told, promise)
            self.assertEqual(word, "kept", text)
            rules, _, head = product(told, promise)
            self.assertIs(takes_rest(rules, head, paper), True)

    def assert_broken(self, told, *texts):
        for text in texts:
            promise = read_promise(text) if isinstance(text, str) else text
            word, run = decide(told, promise)
            self.assertEqual(word, "broken", text)
            rules = rules_of(told)
            begin, again = self.marks_of(told, run)
            self.assertIs(takes_round(tuple(rule[:4] + (1,) for rule in rules), head_of(told), run), True)
            self.assertIs(holds(promise, begin, again, 0), False, text)

    def marks_of(self, told, run):
        """The marks of the begin and of the round of a run, which is played through."""
        parts, begin, again = run
        rules = rules_of(told)
        rows = [written_out(parts, items, length(parts, items)) for items in (begin, again)]
        play(rules, configuration_of(told), rows[0] + rows[1] * 3)
        return [tuple(rules[number][4] for number in row) for row in rows]

    def test_yes_and_not(self):
        for told in (SAYS, CHOOSES, CALLS, SINKS, STAYS, MAYBE):
            self.assert_kept(told, "yes", "not not yes")
            self.assert_broken(told, "not yes")

    def test_the_first_head_need_not_have_the_first_rule(self):
        told = program((loop(call("a"), say("b")),), {"a": ((), (), (say("c"),))})
        self.assertNotEqual(rules_of(told)[0][:2], head_of(told))
        self.assert_broken(told, "not yes", "not next call", "(yes across say:c)")
        self.assert_kept(told, "(yes across say:b)")

    def test_at(self):
        self.assert_kept(SAYS, "quiet", "not say", "not call")
        self.assert_broken(SAYS, "say", "say:a", "call", "back", "not quiet", "quiet:a")
        self.assert_kept(SINKS, "call", "call:p", "not call:q")
        self.assert_broken(SINKS, "call:q", "quiet", "not call:p")

    def test_and_or(self):
        self.assert_kept(SINKS, "(call and call:p)", "(say or call)", "not (say or quiet)", "not (call and quiet)")
        self.assert_broken(SINKS, "(call and call:q)", "(say or quiet)", "not (call or quiet)", "not (call:p and yes)")
        # Each of both can be broken, but not both in the same run.
        self.assert_kept(STAYS, "((yes until call:q) or " + always("not call:q") + ")")
        self.assert_broken(STAYS, "(yes until call:q)", always("not call:q"))

    def test_next(self):
        self.assert_kept(SAYS, "next say:a", "next next quiet", "not next quiet", always("(say or next say)"))
        self.assert_broken(SAYS, "next say:b", "next next say", "not next say:a", always("next say"))
        self.assert_kept(CALLS, "next call", "next next say", "next next next back:p")

    def test_until(self):
        self.assert_kept(SAYS, "(quiet until say:a)", "(yes until say:a)", often("say:a"), always("(quiet or say:a)"))
        self.assert_broken(SAYS, "(quiet until say:b)", "(yes until say:b)", always("quiet"), often("back"),
                           "not (quiet until say:a)")
        self.assert_broken(CHOOSES, "(yes until say:a)", "(yes until say:b)", often("say:a"),
                           "(" + often("say:a") + " and " + often("say:b") + ")")
        self.assert_kept(CHOOSES, "(yes until say)", "(" + often("say:a") + " or " + often("say:b") + ")")

    def test_over(self):
        self.assert_kept(CALLS, "next over back:p", always("(not call or over back:p)"))
        self.assert_broken(CALLS, "over back", "next over say", "next not over yes", "next over back:q", always("over yes"))
        self.assert_broken(SINKS, "over yes", "over back", always("over yes"), "next over over yes")
        self.assert_kept(SINKS, "not over yes", always("(not call or not over yes)"), "next over call")
        self.assert_broken(SWIMS, always("(not call or over back)"), always("(not call or not over back)"))
        # Ahead of a back there is no step across.
        self.assert_kept(CALLS, "next next not over yes", "next next next over yes")
        self.assert_broken(CALLS, "next next over yes", "next next next not over yes")

    def test_across(self):
        self.assert_kept(CALLS, "(yes across back:p)", "not (yes across say)", "next next (yes across say)",
                         "not (yes across not (yes across back:p))")
        self.assert_broken(CALLS, "(yes across say)", "not (yes across back:p)", "(quiet across back)")
        self.assert_kept(SINKS, "not (yes across say)", "next (yes across call)", "next (say across (quiet or call))")
        self.assert_broken(SINKS, "(yes across say)", "next (yes across say:b)")
        self.assert_broken(STAYS, "(yes across call:q)", "(yes across call:p)", "not (yes across call:q)",
                           "not (yes across not (yes across back))")
        self.assert_kept(STAYS, "(yes across call)", always("(not call:p or over (yes across call))"))

    def test_programs_that_always_end_keep_every_promise(self):
        for told in (program(), ENDS, COUNTS, program((say("a"),))):
            self.assert_kept(told, "yes", "not yes", "call", "not call", "(yes until say:zz)", often("call"), "over yes",
                             "not over yes", "(yes across back)", "next next next not yes")

    def test_calls_that_go_ever_deeper(self):
        self.assert_kept(SINKS, often("call:p"), often("say:a"), always("not back"), always("not say:b"),
                         always("(not say:a or next call)"))
        self.assert_broken(SINKS, often("say:b"), "(yes until back)", always("not say:a"))
        # They can come back, too: then something more is said.
        self.assert_broken(SWIMS, "(yes until say:b)", often("say:a"), always("not say:b"), often("back"))
        self.assert_kept(SWIMS, "(" + often("say:a") + " or " + often("say:b") + ")", often("call"),
                         "(" + often("back") + " or (yes until " + always("not back") + "))")
        self.assert_kept(DEEP, often("call:p"))
        self.assert_broken(DEEP, "(yes until say)", often("back"))

    def test_what_only_some_calls_break(self):
        # Only a run in which a call of p comes back and one of q never does.
        self.assert_broken(STAYS, "not ((yes until (call:p and over yes)) and (yes until (call:q and not over yes)))")
        self.assert_kept(STAYS, always("(not call:p or over yes)"), always("(not call:q or not over yes)"),
                         "not (yes until (call:q and over yes))")
        self.assert_broken(MAYBE, always("(not call or over yes)"), "(yes until (call and not over yes))",
                           "not ((yes until (call and over yes)) and (yes until (call and not over yes)))",
                           "not (yes until (call and (not over yes and next next over back)))")
        # No call comes back in which another one never does.
        self.assert_kept(MAYBE, "not (yes until (over back and (not back until (call and not over yes))))")

    def test_a_call_in_a_call(self):
        # Whatever p says is said in a call of p that has come back, or never does.
        self.assert_kept(MAYBE, always("(not say:b or not over call)"), always("(not back or next quiet)"))
        self.assert_broken(MAYBE, always("(not (call and over yes) or next say)"), often("say:a"), often("say:b"))
        self.assert_kept(MAYBE, "(" + often("call") + " or (yes until " + always("(say:b or quiet)") + "))")

    def test_put_off_in_calls_and_behind_them(self):
        told = program((loop(call("p"), say("b")),), {"p": ((), (), (call("q"), say("a"))), "q": ((), (), (say("c"),))})
        self.assert_kept(told, often("say:c"), often("say:b"), always("(not call:p or over (yes across say:b))"),
                         "not (yes across not (yes across say:b))", "not (yes across not (yes across back:p))",
                         always("(not call:q or over (yes across say:a))"))
        self.assert_broken(told, "(yes across say:a)", "(yes across say:c)", always("(not call or over (yes across say:b))"),
                           "not (yes across not (yes across say:a))", "not (yes across not (yes across back:q))")

    def test_programs_and_promises_by_chance(self):
        words = set()
        for seed in range(150):
            rng = chance(500 + seed)
            told = some_program(rng)
            rules = rules_of(told)
            rounds = some_rounds(rng, told)
            for _ in range(4):
                promise = some_promise(rng, 4)
                if not is_promise(promise):
                    continue
                word = decide(told, promise)[0]
                words.add((word, bool(rounds)))
                if word == "broken":
                    self.assert_broken(told, promise)
                    continue
                self.assert_kept(told, promise)
                for begin, again in rounds:
                    marks = [tuple(rules[number][4] for number in row) for row in (begin, again)]
                    self.assertIs(holds(promise, *marks, 0), True, (told, promise, begin, again))
        self.assertLessEqual({("broken", True), ("kept", True), ("kept", False)}, words)

    def test_greater_programs(self):
        body = (
            ("pick", "x"), ("pick", "g"), ("pick", "h"), ("pick", "y"), ("if", var("x"), (("call", "p", (var("g"),), "y"), say("a")), (say("b"),)),
            ("while", var("y"), (("pick", "y"), ("call", "q", (var("x"),), "h"))), ("back", ("same", var("h"), var("x"))),
        )
        told = program((loop(*body),), {"p": (("x",), ("y",), body), "q": (("x",), ("y",), body[1:])}, ("g", "h"), ("x", "y"))
        check_program(told)
        self.assertGreater(len({rule[:2] for rule in rules_of(told)}), 300)
        for text in (always("(not call:p or over yes)"), often("say"), always("((say:a until call) or (yes across back:q))"),
                     "(" + often("say:a") + " or (yes across back:q))", "not (yes across not (yes until over say:b))",
                     "not (yes until (say:a and next (not say:b until call:q)))"):
            promise = read_promise(text)
            if decide(told, promise)[0] == "kept":
                self.assert_kept(told, promise)
            else:
                self.assert_broken(told, promise)

    def test_arguments_stay(self):
        told, promise = copy.deepcopy(STAYS), read_promise(always("(not call:q or over yes)"))
        before = copy.deepcopy(promise)
        self.assertEqual(decide(told, promise), decide(told, promise))
        depth(told)
        can_say(told, "b")
        self.assertEqual((told, promise), (STAYS, before))


def all_configurations(told, most):
    """For each configuration the least number of steps to it, and for each word that of saying it; None if too many."""
    rules = rules_of(told)
    start = configuration_of(told)
    steps, says, waiting = {start: 0}, {}, [start]
    for near in waiting:
        for rule in rules:
            after = use(rule, near)
            if after is None:
                continue
            if rule[4][0] == "say":
                says.setdefault(rule[4][1], steps[near] + 1)
            if after not in steps:
                steps[after] = steps[near] + 1
                waiting.append(after)
        if len(steps) > most:
            return None
    return steps, says


class DepthTest(unittest.TestCase):
    def assert_deep(self, told, n, size=None):
        word, deep, tale = depth(told)
        self.assertEqual((word, deep), ("deep", n))
        parts, items = tale
        numbers = written_out(parts, items, length(parts, items))
        self.assertEqual(len(play(rules_of(told), configuration_of(told), numbers)[1]), n)
        if size is not None:
            self.assertEqual(length(parts, items), size)
        return tale

    def assert_endless(self, told):
        word, run = depth(told)
        self.assertEqual(word, "endless")
        rules = rules_of(told)
        self.assertIs(takes_round(tuple(rule[:4] + (1,) for rule in rules), head_of(told), run), True)
        parts, begin, again = run
        begin, again = [written_out(parts, items, length(parts, items)) for items in (begin, again)]
        low = play(rules, configuration_of(told), begin)
        high = play(rules, configuration_of(told), begin + again)
        self.assertGreater(len(high[1]), len(low[1]))

    def test_without_a_call(self):
        self.assertEqual(self.assert_deep(program(), 1), ((), ()))
        self.assertEqual(self.assert_deep(SAYS, 1), ((), ()))
        self.assertEqual(self.assert_deep(program((("if", ZERO, (call("p"),), ()),), {"p": ((), (), ())}), 1), ((), ()))

    def test_nested_calls(self):
        self.assert_deep(CALLS, 2, 2)
        self.assert_deep(ENDS, 2, 2)
        told = program((say("a"), call("p")), {
            "p": ((), (), (call("r"), call("q"))), "q": ((), (), (say("b"), call("r"))), "r": ((), (), (say("c"),)),
        })
        # say, call p, call r; say, back, quiet; call q, say, call r
        tale = self.assert_deep(told, 4, 3 + 3 + 3)
        self.assertEqual(len(tale[0]), 1)

    def test_the_least_length(self):
        # Both ways are equally deep; the one that is written first takes longer.
        told = program((("either", (say("a"), say("a"), call("p")), (say("a"), call("p"))),), {"p": ((), (), ())})
        self.assert_deep(told, 2, 3)
        # The flag can be set by a long call or by a short one.
        told = program((("either", (call("p"),), (call("q"),)), ("if", var("g"), (call("r"),), ())), {
            "p": ((), (), (say("a"), say("a"), say("a"), ("set", "g", ONE))), "q": ((), (), (say("a"), ("set", "g", ONE))),
            "r": ((), (), (call("q"),)),
        }, ("g",))
        self.assert_deep(told, 3, 1 + 5 + 1 + 2)

    def test_a_recursion_that_is_bounded_by_flags(self):
        self.assert_deep(COUNTS, 5)

    def test_a_stack_that_grows_for_ever(self):
        for told in (SINKS, SWIMS, DEEP, MAYBE, program((call("main"),))):
            self.assert_endless(told)
        # First the flag must come back from another call.
        told = program((("call", "p", (), "g"), ("if", var("g"), (call("q"),), ())), {
            "p": ((), (), (say("a"), ("back", ONE))), "q": ((), (), (("call", "p", (), ""), call("q"))),
        }, ("g",))
        self.assert_endless(told)

    def test_a_loop_does_not_make_it_endless(self):
        self.assert_deep(STAYS, 2)
        self.assert_deep(program((loop(call("p")),), {"p": ((), (), (loop(("either", (call("q"),), (("back", ONE),))),)),
                                                     "q": ((), (), (loop(say("a")),))}), 3)

    def test_by_chance(self):
        words = set()
        for seed in range(150):
            rng = chance(seed)
            told = some_program(rng, seed % 2 == 0)
            answer = depth(told)
            found = all_configurations(told, 1500)
            if answer[0] == "endless":
                self.assertIsNone(found)
                self.assert_endless(told)
            elif found is not None:
                deepest = max(len(stack) for _, stack in found[0])
                least = min(found[0][near] for near in found[0] if len(near[1]) == deepest)
                self.assert_deep(told, deepest, least)
                words.add(deepest)
            words.add(answer[0])
        self.assertLessEqual({"endless", "deep", 1, 2, 3, 4}, words)

    def test_calls_that_are_made_in_numbers(self):
        # Each procedure calls the one below twice; the last one is reached only behind all of them.
        procs = {name: ((), (), (call(below), call(below))) for name, below in zip("pqr", "qrs")}
        procs["s"] = ((), (), (("if", var("g"), (), ()),))
        told = program((call("p"), ("set", "g", ONE), call("p"), call("t")), {
            **procs, "t": ((), (), (call("p"),)),
        }, ("g",))
        self.assertEqual(len(told["procs"]), 6)
        tale = self.assert_deep(told, 6)
        self.assertGreater(length(*tale), 100)
        self.assertLess(sum(len(part) for part in tale[0]) + len(tale[1]), 60)


class SayTest(unittest.TestCase):
    def assert_says(self, told, word, size):
        parts, items = can_say(told, word)
        numbers = written_out(parts, items, length(parts, items))
        rules = rules_of(told)
        play(rules, configuration_of(told), numbers)
        self.assertEqual(rules[numbers[-1]][4], ("say", word))
        self.assertEqual(length(parts, items), size)

    def test_at_once(self):
        self.assert_says(program((say("a"),)), "a", 1)
        self.assert_says(SAYS, "a", 2)
        self.assert_says(ENDS, "a", 2)

    def test_behind_and_within_calls(self):
        self.assert_says(CALLS, "a", 3)
        self.assert_says(ENDS, "c", 3)
        self.assert_says(ENDS, "b", 3)
        told = program((call("p"), call("p"), say("b")), {"p": ((), (), (say("a"), call("q"))), "q": ((), (), ())})
        # Each call takes call, say, call, back, quiet, back, quiet.
        self.assert_says(told, "b", 15)
        self.assert_says(told, "a", 2)
        self.assert_says(COUNTS, "up", all_configurations(COUNTS, 5000)[1]["up"])

    def test_only_behind_a_choice(self):
        told = program((("pick", "g"), ("pick", "h"), ("if", ("and", var("g"), ("not", var("h"))), (say("a"),), (say("b"),))),
                       None, ("g", "h"))
        self.assert_says(told, "a", 4)
        self.assert_says(told, "b", 4)
        told = program((("call", "p", (), "g"), ("if", var("g"), (say("a"),), ())),
                       {"p": ((), ("x",), (("pick", "x"), ("if", var("x"), (say("b"), ("back", ONE)), ())))}, ("g",))
        self.assert_says(told, "a", 8)

    def test_the_least_length(self):
        told = program((("either", (say("b"), say("b"), say("a")), (call("p"), say("a"))),), {"p": ((), (), (say("a"),))})
        self.assert_says(told, "a", 3)
        # Two calls take six steps: call, back, quiet, and again.
        for many in (5, 7):
            says = tuple(say("b") for _ in range(many))
            told = program((("either", says, (call("p"), call("p"))), say("a")), {"p": ((), (), ())})
            self.assert_says(told, "a", 1 + min(many, 6) + 1)
        # Many calls: each rule counts as much as each other one.
        for many in (29, 31):
            told = program((("either", (say("b"),) * many, (call("p"),) * 10), say("a")), {"p": ((), (), ())})
            self.assert_says(told, "a", 1 + min(many, 30) + 1)
        for many in (7, 9):
            told = program((("either", (say("b"),) * many, (call("p"),)), say("a")),
                           {"p": ((), (), (call("q"),)), "q": ((), (), (("either", (), ()),))})
            self.assert_says(told, "a", 1 + min(many, 7) + 1)
        # Recursion, but no deeper than needed.
        self.assert_says(SWIMS, "a", 4)

    def test_behind_a_recursion_without_a_bound(self):
        # while, call p, either, back, quiet, say
        self.assert_says(SWIMS, "b", 6)
        # call p, pick, if, back, quiet, say
        self.assert_says(DEEP, "done", 6)

    def test_never(self):
        self.assertIsNone(can_say(SINKS, "b"))
        self.assertIsNone(can_say(program((("if", ZERO, (say("a"),), ()),)), "a"))
        self.assertIsNone(can_say(program((loop(say("b")), say("a"))), "a"))
        self.assertIsNone(can_say(program((), {"p": ((), (), (say("a"),))}), "a"))
        self.assertIsNone(can_say(program((("set", "g", ONE), call("p"), ("if", var("g"), (), (say("a"),))),
                                          {"p": ((), (), (("set", "g", ("not", ("not", var("g")))),))}, ("g",)), "a"))

    def test_a_word_that_no_statement_has(self):
        for told in (program(), SAYS, DEEP):
            self.assertIsNone(can_say(told, "zz"))
        # Names of procedures and kinds are no words.
        self.assertIsNone(can_say(CALLS, "p"))
        self.assertIsNone(can_say(CALLS, "main"))

    def test_by_chance(self):
        said = 0
        for seed in range(120):
            told = some_program(chance(3000 + seed), seed % 3 == 0)
            found = all_configurations(told, 1500)
            for word in ("a", "b", "c"):
                tale = can_say(told, word)
                if tale is None:
                    self.assertTrue(found is None or word not in found[1])
                elif found is not None or length(*tale) < 5000:
                    size = found[1][word] if found else length(*tale)
                    self.assert_says(told, word, size)
                    said += 1
        self.assertGreater(said, 50)


if __name__ == "__main__":
    unittest.main()
