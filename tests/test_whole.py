"""The whole program: greater programs in short time, arguments that stay, and answers that fit together."""

import copy
import time
import unittest

from calltowers.counting import configuration_at, count, place_of
from calltowers.decide import can_say, decide, depth
from calltowers.desk import Desk
from calltowers.ending import always_ends
from calltowers.nested import takes_word
from calltowers.order import rank
from calltowers.player import step
from calltowers.prices import depth_needed, few_calls, price
from calltowers.product import product
from calltowers.programs import check_program
from calltowers.programtext import program_text, read_program
from calltowers.promisetext import read_promise
from calltowers.pushdowns import head_of, play, rules_of
from calltowers.rests import takes_rest
from calltowers.rounds import length, takes_round, written_out
from calltowers.safety import safety, takes_safety
from calltowers.stacks import accepts, predecessors, successors
from calltowers.tables import difference, has, least, machine_of, meet, minus, table_of, union
from calltowers.traces import apart, breach, trace_machine
from tests.chance import chance, some_program
from tests.reference import all_plays, trace_levels
from tests.samples import ALL_FORMS, DEEP, ONE, ZERO, program, var

LIMIT = 30


def call(proc, *args):
    return ("call", proc, args, "")


def say(word):
    return ("say", word)


BODY = (
    ("pick", "x"), ("pick", "g"), ("either", (say("a"), ("pick", "h")), (("set", "h", ("not", var("g"))),)),
    ("if", ("and", var("x"), var("h")), (("call", "q", (var("x"), var("g")), "y"), say("b")), (("call", "p", (var("y"),), ""),)),
    ("while", ("not", var("y")), (("pick", "y"), ("if", var("g"), (("call", "p", (var("h"),), "h"),), (say("c"),)))),
)
GREAT = program((("while", ONE, BODY[:4]),), {
    "p": (("x",), ("y",), (("either", BODY, (("back", var("x")),)),)),
    "q": (("x", "z"), ("y", "w"), BODY[1:] + (("pick", "w"), ("back", ("same", var("w"), var("z"))))),
}, ("g", "h"), ("x", "y"))
# The same without any loop or recursion.
LINES = program((("pick", "g"), ("pick", "h"), ("pick", "i"), ("pick", "j")) + (("call", "p", (var("g"), var("h")), "x"), ("call", "q", (var("i"),), "g")) * 5, {
    "p": (("x", "z"), ("y",), (("either", (say("a"), ("pick", "y")), (("call", "q", (var("z"),), "y"),)), ("if", var("y"), (say("b"),), ()),
                               ("set", "h", ("same", var("h"), var("x"))), ("back", ("and", var("y"), var("i"))))),
    "q": (("x",), (), (("if", ("same", var("x"), var("j")), (say("c"), ("pick", "i")), (("pick", "j"),)), ("back", ("not", var("i"))))),
}, ("g", "h", "i", "j"), ("x",))


def start_of(told):
    state, symbol = head_of(told)
    return (state, (symbol,))


def things_of(told):
    """The states and the symbols of a program, in order."""
    rules = rules_of(told)
    states = {state: True for p, _, q, _, _ in rules for state in (p, q)}
    symbols = {symbol: True for _, s, _, w, _ in rules for symbol in (s,) + w}
    return tuple(sorted(states, key=rank)), tuple(sorted(symbols, key=rank))


class GreatProgramsTest(unittest.TestCase):
    def setUp(self):
        self.begun = time.monotonic()

    def tearDown(self):
        self.assertLess(time.monotonic() - self.begun, LIMIT)

    def test_they_are_great(self):
        for told in (GREAT, LINES):
            check_program(told)
            self.assertEqual(len(told["procs"]), 3)
            self.assertGreater(len({rule[:2] for rule in rules_of(told)}), 350)

    def test_promises(self):
        for told in (GREAT, LINES):
            for text in ("not (yes until not (not call:p or over yes))", "(yes until say:a)", "(yes across (say:b or back))",
                         "not (yes until not (yes until say:c))", "(not (yes until not (yes until say:a)) or (yes across back:q))"):
                promise = read_promise(text)
                word, paper = decide(told, promise)
                if word == "kept":
                    rules, _, head = product(told, promise)
                    self.assertIs(takes_rest(rules, head, paper), True)
                else:
                    self.assertIs(takes_round(tuple(rule[:4] + (1,) for rule in rules_of(told)), head_of(told), paper), True)

    def test_depth_saying_prices_and_ending(self):
        self.assertEqual(depth(GREAT)[0], "endless")
        self.assertEqual(depth(LINES)[:2], ("deep", 3))
        self.assertEqual((always_ends(GREAT)[0], always_ends(LINES)[0]), ("endless", "ends"))
        for told in (GREAT, LINES):
            for word in "abc":
                least_tale, cheap_tale = can_say(told, word), few_calls(told, word)
                calls, rules = price(rules_of(told), cheap_tale)
                self.assertLessEqual(length(*least_tale), rules)
                self.assertLessEqual(calls, price(rules_of(told), least_tale)[0])
                self.assertLessEqual(depth_needed(told, word), 1 + calls)
            self.assertIsNone(few_calls(told, "d"))

    def test_safety(self):
        for told in (GREAT, LINES):
            states, symbols = things_of(told)
            below = tuple(("x", symbol, "x") for symbol in symbols)
            edges = tuple((state, symbol, "x") for state in states for symbol in symbols if symbol[0] == "q" and symbol[1] > 3)
            word, tale = safety(told, (edges + below, ("x",)))
            self.assertEqual(word, "reached")
            after = play(rules_of(told), start_of(told), written_out(*tale, length(*tale)))
            self.assertIs(accepts((edges + below, ("x",)), after), True)
            nothing = (tuple((state, symbols[0][:1], "x") for state in states) + below, ("x",))
            word, paper = safety(told, nothing)
            self.assertEqual(word, "safe")
            self.assertIs(takes_safety(told, nothing, paper), True)

    def test_tables(self):
        for told in (GREAT, LINES):
            rules, (states, symbols) = rules_of(told), things_of(told)
            state, symbol = head_of(told)
            reached = least(table_of(successors(rules, (((state, symbol, "end"),), ("end",))), states, symbols))
            ends = least(table_of(predecessors(rules, ((), tuple(near for near in states if near[1] is not None))), states, symbols))
            both = meet(reached, ends)
            self.assertIs(has(reached, start_of(told)), True)
            self.assertEqual(least(union(both, minus(reached, ends))), reached)
            self.assertEqual(least(table_of(machine_of(reached), states, symbols)), reached)
            self.assertEqual(difference(reached, both) is None, least(both) == reached)
            for n in (1, 2, 3, 60):
                many = count(reached, n)
                for place in (0, many // 2, many - 1):
                    near = configuration_at(reached, n, place)
                    self.assertEqual(near is None, many == 0)
                    if near is not None:
                        self.assertEqual(place_of(reached, near), place)

    def test_traces(self):
        for told in (GREAT, LINES):
            self.assertIsNone(apart(told, told))
            self.assertIsNone(breach(told, trace_machine(told)))
            params, own, body = told["procs"]["q"]
            other = {"globals": told["globals"], "procs": {**told["procs"], "q": (params, own, body[:-1] + (say("a"), body[-1]))}}
            word = apart(told, other)
            self.assertIs(takes_word(trace_machine(told), word), not takes_word(trace_machine(other), word))
            self.assertIn(word, (breach(told, trace_machine(other)), breach(other, trace_machine(told))))

    def test_the_desk(self):
        for told in (GREAT, LINES):
            desk = Desk()
            self.assertEqual(desk.answer("PROGRAM\n" + program_text(told)), "OK")
            self.assertEqual(desk.answer("PROMISE a\n(yes until (say:a and next not say))"), "OK")
            self.assertIn(desk.answer("DECIDE a")[:4], ("KEPT", "BROK"))
            # KEPT has no newline.
            self.assertIn(desk.answer("REPORT a 1000").count("\n"), (0, 1000))
            self.assertEqual(desk.answer("CAN a")[:4], "YES ")


class FitTest(unittest.TestCase):
    def test_heads_with_nothing_below(self):
        # A step from each configuration that is not ended is a rule, and there is one.
        for told in (DEEP, ALL_FORMS, GREAT):
            rules = rules_of(told)
            heads = {rule[:2] for rule in rules}
            self.assertLessEqual({(q, w[0]) for _, _, q, w, _ in rules if w}, heads)
            for number, (p, s, q, w, mark) in list(enumerate(rules))[:200]:
                self.assertEqual(play(rules, (p, (s,)), [number]), (q, w))
                self.assertIn((q + (w,), mark), [step(told, p + ((s,),), choice) for choice in (0, 1)])

    def test_ends_deep_and_kept_fit_together(self):
        found = set()
        for seed in range(80):
            told = some_program(chance(seed), seed % 2 == 0)
            word, answer = always_ends(told)
            found.add((word, depth(told)[0]))
            # Without an endless run each promise is kept; with one the promise "not yes" is broken.
            self.assertEqual(decide(told, ("not", ("yes",)))[0], "kept" if word == "ends" else "broken")
            if word == "ends":
                self.assertEqual(depth(told)[0], "deep")
                self.assertLessEqual(depth(told)[1], answer)
        self.assertEqual(found, {("ends", "deep"), ("endless", "deep"), ("endless", "endless")})

    def test_longest_traces_and_longest_runs(self):
        for seed in range(60):
            told = some_program(chance(300 + seed), True)
            word, n = always_ends(told)
            if word == "ends" and n < 14:
                levels = trace_levels(told, n + 1)
                self.assertTrue(len(levels) <= n or levels[n] and not levels[n + 1])

    def test_tables_of_what_is_reached(self):
        for seed in range(30):
            told = some_program(chance(600 + seed), True)
            plays = all_plays(told, 300)
            if plays is None:
                continue
            state, symbol = head_of(told)
            table = table_of(successors(rules_of(told), (((state, symbol, "end"),), ("end",))), *things_of(told))
            sizes = [len(stack) for _, stack in plays]
            self.assertEqual([count(table, n) for n in range(8)], [sizes.count(n) for n in range(8)])
            for near in plays:
                self.assertIs(has(table, near), True)
                self.assertEqual(configuration_at(table, len(near[1]), place_of(table, near)), near)

    def test_arguments_stay_and_answers_are_new(self):
        told = copy.deepcopy(ALL_FORMS)
        for action in (program_text, rules_of, head_of, depth, always_ends, trace_machine, lambda given: can_say(given, "hi"),
                       lambda given: few_calls(given, "b"), lambda given: depth_needed(given, "b"), lambda given: apart(given, DEEP)):
            self.assertEqual(action(told), action(told))
            self.assertEqual(told, ALL_FORMS)
        text = program_text(told)
        first, second = read_program(text), read_program(text)
        self.assertEqual(first, second)
        self.assertIsNot(first, second)
        self.assertIsNot(first["procs"], second["procs"])

    def test_deep_stacks_in_everything(self):
        # The recursion of the programs is not that of Python: all answers come for chains of many calls.
        told = program((call("p", ZERO, ZERO, ZERO, ZERO),), {"p": (("a", "b", "c", "d"), (), (
            ("if", ("and", ("and", var("a"), var("b")), ("and", var("c"), var("d"))), (("back", ONE),), ()),
            call("p", ("or", ("and", var("a"), ("not", ("and", var("b"), ("and", var("c"), var("d"))))),
                       ("and", ("not", var("a")), ("and", var("b"), ("and", var("c"), var("d"))))),
                 ("not", ("same", var("b"), ("and", var("c"), var("d")))), ("not", ("same", var("c"), var("d"))), ("not", var("d"))),
            say("x"),
        ))})
        check_program(told)
        self.assertEqual(depth(told)[:2], ("deep", 17))
        self.assertEqual(depth_needed(told, "x"), 17)
        self.assertEqual(price(rules_of(told), few_calls(told, "x"))[0], 16)
        self.assertIsNone(apart(told, told))


if __name__ == "__main__":
    unittest.main()
