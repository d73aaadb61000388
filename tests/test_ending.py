import copy
import unittest

from calltowers.ending import always_ends
from calltowers.pushdowns import head_of, play, rules_of
from calltowers.rounds import length, takes_round, written_out
from tests.chance import chance, some_program
from tests.reference import all_plays, longest_run
from tests.samples import ALL_FORMS, DEEP, ONE, ZERO, program, var


def call(proc, *args):
    return ("call", proc, args, "")


def say(word):
    return ("say", word)


def marked(told):
    """The rules of a program, each with the mark 1."""
    return tuple(rule[:4] + (1,) for rule in rules_of(told))


class AlwaysEndsTest(unittest.TestCase):
    def assert_ends(self, told, n):
        self.assertEqual(always_ends(told), ("ends", n))

    def assert_endless(self, told):
        word, run = always_ends(told)
        self.assertEqual(word, "endless")
        self.assertIs(takes_round(marked(told), head_of(told), run), True)
        parts, begin, again = run
        state, symbol = head_of(told)
        rows = [written_out(parts, items, length(parts, items)) for items in (begin, again)]
        play(rules_of(told), (state, (symbol,)), rows[0] + 3 * rows[1])

    def test_at_once(self):
        self.assert_ends(program(), 1)
        self.assert_ends(program((("back", ONE), say("a"))), 1)
        self.assert_ends(program((say("a"), say("b"))), 3)

    def test_behind_calls(self):
        self.assert_ends(program((call("p"),), {"p": ((), (), ())}), 4)
        self.assert_ends(program((call("p"), call("p")), {"p": ((), (), (say("a"), call("q"))), "q": ((), (), ())}), 2 * 7 + 1)

    def test_the_longest_run_needs_certain_choices(self):
        self.assert_ends(program((("either", (say("a"),), (say("a"), say("b"))),)), 4)
        self.assert_ends(program((("either", (say("a"), say("b")), ()),)), 4)
        # Only if g is 1 and h is 0 there is more to do.
        self.assert_ends(program((("pick", "g"), ("pick", "h"), ("if", ("and", var("g"), ("not", var("h"))), (say("a"),) * 3, ())),
                                 None, ("g", "h")), 7)
        # The flag that a call brings is 1 only on a short way through it; but then more comes.
        told = program((("call", "p", (), "g"), ("if", var("g"), (say("a"),) * 9, ())), {
            "p": ((), (), (("either", (("back", ONE),), (say("b"),) * 5),)),
        }, ("g",))
        self.assert_ends(told, 1 + 2 + 1 + 1 + 9 + 1)

    def test_a_while_that_ends(self):
        self.assert_ends(program((("pick", "g"), ("while", var("g"), (say("a"), ("set", "g", ZERO)))), None, ("g",)), 6)
        self.assert_ends(program((("while", ZERO, ()),)), 2)

    def test_bounded_recursion(self):
        told = program((call("p", ZERO, ZERO),), {"p": (("a", "b"), (), (
            ("if", ("and", var("a"), var("b")), (), (call("p", ("or", var("a"), var("b")), ("not", var("b"))),)),
        ))})
        # From 00 to 01, 10 (the third call has a and not b) and 11: each call asks, calls, takes and comes back.
        self.assert_ends(told, longest_run(all_plays(told, 500), (head_of(told)[0], (head_of(told)[1],))))
        self.assert_ends(program((("if", var("g"), (), (("set", "g", ONE), call("main"))),), None, ("g",)), 3 + 2 + 2)

    def test_endless(self):
        for told in (
            DEEP, ALL_FORMS, program((("while", ONE, ()),)), program((("while", ONE, (say("a"),)),)), program((call("main"),)),
            program((call("p"),), {"p": ((), (), (("while", ONE, ()),))}),
            program((call("p"),), {"p": ((), (), (("either", (call("q"),), ()),)), "q": ((), (), (call("p"), say("a")))}),
            program((("pick", "g"), ("while", var("g"), (("pick", "g"), call("p"))))[:2], {"p": ((), (), ())}, ("g",)),
            program((call("p"), call("q")), {"p": ((), (), ()), "q": ((), (), (call("p"), ("if", ONE, (call("q"),), ())))}),
        ):
            self.assert_endless(told)

    def test_only_after_certain_choices(self):
        told = program((("pick", "g"), ("call", "p", (var("g"),), "g"), ("while", var("g"), (call("p", ONE),))),
                       {"p": (("x",), (), (("back", var("x")),))}, ("g",))
        self.assert_endless(told)
        told = program((("call", "p", (ONE,), "g"), ("while", var("g"), (call("p", ONE),))),
                       {"p": (("x",), (), (("back", ("not", var("x"))),))}, ("g",))
        self.assert_ends(told, 5)

    def test_endless_code_that_is_never_come_to(self):
        self.assert_ends(program((("if", ZERO, (("while", ONE, ()),), ()),), {"p": ((), (), (call("p"),))}), 2)
        # No call brings 1, so the frame that waits never goes on with 1.
        told = program((("call", "p", (), "g"), ("while", var("g"), ())), {"p": ((), (), ())}, ("g",))
        self.assert_ends(told, 5)

    def test_a_number_that_is_far_too_great(self):
        names = ("pa", "pb", "pc", "pd", "pe")
        procs, size = {"pe": ((), (), (say("a"),))}, 2
        for name, below in zip(names[-2::-1], names[:0:-1]):
            procs[name] = ((), (), (call(below),) * 30)
            size = 30 * (2 + size) + 1
        self.assert_ends(program((call("pa"),) * 39, procs), 39 * (2 + size) + 1)
        self.assertGreater(size, 10 ** 6)
        # The flags count in the calls: each of 32 calls in calls makes two more.
        step = (("if", var("e"), (("set", "e", ZERO),) + (("if", var("d"), (("set", "d", ZERO),) + (
            ("if", var("c"), (("set", "c", ZERO), ("set", "b", ("not", var("b")))), (("set", "c", ONE),)),), (("set", "d", ONE),)),),
            (("set", "e", ONE),)),)
        told = program((call("p", ZERO, ZERO, ZERO, ZERO),), {"p": (("b", "c", "d", "e"), (), (
            ("if", ("and", ("and", var("b"), var("c")), ("and", var("d"), var("e"))), (("back", ONE),), ()),
        ) + step + (call("p", var("b"), var("c"), var("d"), var("e")),) * 4)})
        word, n = always_ends(told)
        self.assertEqual(word, "ends")
        self.assertGreater(n, 4 ** 14)
        self.assertEqual(n, self.counted_steps())

    def counted_steps(self):
        """The steps of a procedure that counts from 0 to 15 in four flags and calls itself four times."""
        size = 2
        for number in range(14, -1, -1):
            low, mid, high = number & 1, number >> 1 & 1, number >> 2 & 1
            asked = 2 if not low else 4 if not mid else 6 if not high else 7
            size = 1 + asked + 4 * (2 + size) + 1
        return 1 + size + 1 + 1

    def test_by_chance(self):
        numbers = set()
        for seed in range(300):
            told = some_program(chance(seed), seed % 2 == 0)
            answer = always_ends(told)
            steps = all_plays(told, 600)
            expected = None if steps is None else longest_run(steps, next(iter(steps)))
            if expected is None:
                if steps is not None or answer[0] == "endless":
                    self.assert_endless(told)
            else:
                self.assertEqual(answer, ("ends", expected))
            numbers.add(expected)
        self.assertGreater(len(numbers), 15)
        self.assertIn(None, numbers)

    def test_arguments_stay(self):
        for sample in (DEEP, ALL_FORMS):
            told = copy.deepcopy(sample)
            self.assertEqual(always_ends(told), always_ends(told))
            self.assertEqual(told, sample)


if __name__ == "__main__":
    unittest.main()
