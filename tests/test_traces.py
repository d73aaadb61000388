import copy
import itertools
import unittest

from calltowers.nested import difference, takes_word
from calltowers.traces import apart, breach, names_of, trace_machine
from tests.chance import chance, changed, some_nested_machine, some_program
from tests.reference import nested_words, plain_takes_word, trace_levels
from tests.samples import ALL_FORMS, DEEP, ONE, ZERO, program, var

QUIET = ("plain", "quiet")


def call(proc, *args):
    return ("call", proc, args, "")


def say(word):
    return ("say", word)


def plain(word):
    return ("plain", word)


def letters(text):
    """The letters of a short text: call:p, back:p, and words."""
    return tuple(tuple(part.split(":")) if ":" in part else ("plain", part) for part in text.split())


# The traces of all lengths of it are the beginnings of one word.
ENDS = program((say("a"), call("p"), say("b")), {"p": ((), (), (say("c"),))})
WHOLE = letters("a call:p c back:p quiet b back:main")
# It calls itself as often as it likes, says a on the way down and b on the way up.
NESTS = program((call("p"),), {"p": ((), (), (say("a"), ("either", (call("p"),), ()), say("b")))})


def everything(words):
    """The machine that takes all words made of these words."""
    moves = [move for word in words for move in (
        ("plain", 0, word, 0), ("call", 0, word, 0, 0), ("back", 0, word, 0, 0), ("back", 0, word, None, 0))]
    return ((0,), tuple(moves), (0,))


class NamesTest(unittest.TestCase):
    def test_names(self):
        self.assertEqual(names_of(program()), ("main", "quiet"))
        self.assertEqual(names_of(ENDS), ("a", "b", "c", "main", "p", "quiet"))
        self.assertEqual(names_of(ALL_FORMS), ("a", "b", "hi", "ho", "main", "p", "q", "quiet"))

    def test_words_that_are_never_said(self):
        told = program((("if", ZERO, (say("x"),), ()), ("while", ONE, (("either", (), (say("z"), ("while", ONE, (say("y"),)))),)), say("w")),
                       {"q": ((), (), (say("v"),))})
        self.assertEqual(names_of(told), ("main", "q", "quiet", "v", "w", "x", "y", "z"))

    def test_each_once(self):
        told = program((say("p"), say("quiet"), say("main"), say("a"), say("a")), {"p": ((), (), (say("a"),))})
        self.assertEqual(names_of(told), ("a", "main", "p", "quiet"))


class TraceMachineTest(unittest.TestCase):
    def assert_traces(self, told, most):
        """Up to so many letters the machine takes exactly the traces; also tried are wrong letters behind right ones."""
        levels = trace_levels(told, most)
        machine = trace_machine(told)
        self.assertEqual(len(machine), 3)
        following = [(kind, word) for kind in ("call", "back", "plain") for word in names_of(told) + ("zz",)]
        for size, level in enumerate(levels):
            for word in itertools.islice(sorted(level), 40):
                self.assertIs(takes_word(machine, word), True, word)
                for letter in following if size + 1 < len(levels) else ():
                    self.assertIs(takes_word(machine, word + (letter,)), word + (letter,) in levels[size + 1], (word, letter))

    def test_the_trace_of_no_step(self):
        for told in (program(), ENDS, NESTS, DEEP, ALL_FORMS):
            self.assertIs(takes_word(trace_machine(told), ()), True)

    def test_a_program_that_ends(self):
        machine = trace_machine(ENDS)
        for size in range(len(WHOLE) + 1):
            self.assertIs(takes_word(machine, WHOLE[:size]), True)
        for word in (WHOLE + (QUIET,), WHOLE + (("back", "main"),), WHOLE[1:], WHOLE[:3] + WHOLE[4:], WHOLE[:-1] + (("back", "p"),)):
            self.assertIs(takes_word(machine, word), False)
        self.assert_traces(ENDS, 9)
        self.assertIs(takes_word(trace_machine(program()), letters("back:main")), True)

    def test_open_calls(self):
        machine = trace_machine(NESTS)
        down = letters("call:p a quiet") * 50
        self.assertIs(takes_word(machine, down), True)
        self.assertIs(takes_word(machine, down + letters("b")), True)
        up = letters("b back:p quiet") * 50
        self.assertIs(takes_word(machine, down + up + letters("back:main")), True)
        self.assertIs(takes_word(machine, down + up[:-3] + letters("back:main")), False)
        self.assertIs(takes_word(machine, down + up + letters("b")), False)

    def test_level_by_level(self):
        for told in (program(), NESTS, DEEP, ALL_FORMS, program((call("main"), say("a"))), program((("while", ONE, (say("a"), call("p"))),), {
                "p": ((), (), (("pick", "g"), ("if", var("g"), (say("b"), ("back", ONE)), ())))}, ("g",))):
            self.assert_traces(told, 9)

    def test_exactly_the_traces(self):
        for told in (NESTS, program((("either", (say("p"),), (call("main"),)),))):
            machine, levels = trace_machine(told), trace_levels(told, 4)
            for word in nested_words(("a", "p", "quiet", "main")[:4 if told != NESTS else 3], 3):
                self.assertIs(plain_takes_word(machine, word), word in levels[len(word)], word)

    def test_a_back_of_main_in_a_call(self):
        told = program((("if", var("g"), (), (("set", "g", ONE), call("main"), say("a"))),), None, ("g",))
        self.assert_traces(told, 9)
        word = letters("quiet quiet call:main quiet back:main quiet a back:main")
        self.assertIs(takes_word(trace_machine(told), word), True)
        self.assertIs(takes_word(trace_machine(told), word[:5] + word[7:]), False)

    def test_what_the_flags_allow(self):
        # What the call brings, and not only where it was called, decides how it goes on.
        told = program((("pick", "g"), ("call", "p", (var("g"),), "h"), ("if", var("h"), (say("a"),), (say("b"),)), ("if", var("g"), (say("c"),), ())),
                       {"p": (("x",), (), (("if", var("x"), (say("d"),), ()), ("back", ("not", var("x")))))}, ("g", "h"))
        self.assert_traces(told, 14)
        for ahead, behind in (("quiet call:p quiet d back:p quiet quiet", "b quiet c"), ("quiet call:p quiet back:p quiet quiet", "a quiet")):
            self.assertIs(takes_word(trace_machine(told), letters(ahead + " " + behind)), True)
            self.assertIs(takes_word(trace_machine(told), letters(ahead + " " + ("a" if "b" in behind else "b"))), False)

    def test_by_chance(self):
        for seed in range(60):
            self.assert_traces(some_program(chance(seed)), 9)


class BreachTest(unittest.TestCase):
    def test_none(self):
        for told in (program(), ENDS, NESTS, DEEP, ALL_FORMS):
            self.assertIsNone(breach(told, trace_machine(told)))
            self.assertIsNone(breach(told, everything(names_of(told))))
            # Words that are no names of the program count for nothing.
            starts, moves, finals = trace_machine(told)
            self.assertIsNone(breach(told, (starts, moves + (("plain", starts[0], "zz", starts[0]),), finals)))

    def test_the_empty_trace(self):
        for told in (program(), ENDS, DEEP):
            self.assertEqual(breach(told, ((), (), ())), ())
            starts, moves, finals = trace_machine(told)
            self.assertEqual(breach(told, (starts, moves, tuple(node for node in finals if node not in starts))), ())

    def test_the_shortest_trace(self):
        starts, moves, finals = everything(("a", "b", "c", "p", "quiet"))
        self.assertEqual(breach(ENDS, (starts, moves, finals)), WHOLE)
        kept = tuple(move for move in moves if move[2] != "c" or move[0] != "plain")
        self.assertEqual(breach(ENDS, (starts, kept, finals)), WHOLE[:3])
        kept = tuple(move for move in moves if move[0] != "back" or move[3] is None)
        self.assertEqual(breach(ENDS, (starts, kept, finals)), WHOLE[:4])

    def test_the_least_one(self):
        told = program((("either", (say("b"), say("a")), (("either", (call("p"),), (say("a"),)),)), say("c")), {"p": ((), (), ())})
        starts, moves, finals = everything(("quiet",))
        self.assertEqual(breach(told, (starts, moves, finals)), letters("quiet b"))
        moves += everything(("b",))[1]
        self.assertEqual(breach(told, (starts, moves, finals)), letters("quiet b a"))
        moves += everything(("c",))[1]
        self.assertEqual(breach(told, (starts, moves, finals)), letters("quiet b a"))
        moves += everything(("p",))[1]
        self.assertEqual(breach(told, (starts, moves, finals)), letters("quiet b a"))
        moves += (("plain", 0, "a", 1), ("plain", 1, "c", 1))
        self.assertEqual(breach(told, (starts, moves, finals)), letters("quiet b a"))
        self.assertEqual(breach(told, (starts, moves, (0, 1))), letters("quiet b a c back:main"))
        # A call comes ahead of a plain letter.
        self.assertEqual(breach(program((("either", (say("a"),), (call("p"),)),), {"p": ((), (), ())}), everything(("quiet",))),
                         letters("quiet call:p"))

    def test_what_only_matched_letters_tell(self):
        # The machine wants each call of p to come back behind an even number of b in p itself.
        moves = []
        for node, odd in ((0, 1), (1, 0)):
            moves += [("plain", node, "b", odd), ("plain", node, "a", node), ("plain", node, "quiet", node), ("call", node, "p", 0, node),
                      ("back", 0, "p", node, node), ("back", 0, "main", None, 0)]
        machine = ((0,), tuple(moves), (0, 1))
        self.assertEqual(breach(NESTS, machine), letters("call:p a quiet b back:p"))
        twice = program((call("p"),), {"p": ((), (), (say("a"), ("either", (call("p"),), ()), say("b"), say("b")))})
        self.assertIsNone(breach(twice, machine))

    def test_a_machine_with_many_ways(self):
        # The machine guesses at some letter that eight letters are left; it could be wrong each time.
        told = program((("while", ONE, (("either", (say("a"),), (say("b"),)),)),))
        moves = [("plain", 0, word, 0) for word in ("a", "b", "quiet")] + [("plain", 0, word, 1) for word in ("a", "b", "quiet")]
        moves += [("plain", at, word, at + 1) for at in range(1, 8) for word in ("a", "b", "quiet")]
        machine = ((0,), tuple(moves), tuple(range(9)))
        self.assertIsNone(breach(told, machine))
        self.assertEqual(breach(told, (machine[0], machine[1], tuple(range(1, 9)))), ())

    def test_by_chance(self):
        sizes = {}
        for seed in range(250):
            rng = chance(seed)
            told = some_program(rng)
            if seed % 2:
                machine = trace_machine(changed(rng, told))
            else:
                machine = some_nested_machine(rng, names_of(told), 5, 60)
                machine = machine[:2] + (tuple({node for move in machine[1] for node in (move[1],)}),)
            self.assert_breach(told, machine, sizes)
        self.assertLessEqual({None, 0, 1, 2, 3}, set(sizes))

    def assert_breach(self, told, machine, sizes):
        found = breach(told, machine)
        sizes[None if found is None else len(found)] = True
        for size, level in enumerate(trace_levels(told, 9, 300)):
            wrong = [word for word in level if not takes_word(machine, word)]
            if found is not None and size == len(found):
                self.assertEqual(min(wrong), found)
                return
            self.assertEqual(wrong, [])
        if found is not None:
            self.assertIs(takes_word(trace_machine(told), found), True)
            self.assertIs(takes_word(machine, found), False)


class ApartTest(unittest.TestCase):
    def assert_apart(self, first, second, text):
        expected = None if text is None else letters(text)
        self.assertEqual(apart(first, second), expected)
        self.assertEqual(apart(second, first), expected)

    def test_a_program_and_itself(self):
        for told in (program(), ENDS, NESTS, DEEP, ALL_FORMS):
            self.assert_apart(told, told, None)
            self.assert_apart(told, copy.deepcopy(told), None)

    def test_the_same_in_different_ways(self):
        self.assert_apart(program((("either", (say("a"),), (say("b"),)),)), program((("either", (say("b"),), (say("a"),)),)), None)
        self.assert_apart(program((("set", "g", ONE), ("if", var("g"), (say("a"),), (say("b"),))), None, ("g",)),
                          program((("pick", "h"), ("while", ("and", ZERO, var("h")), ()), say("a")), None, ("h",)), None)
        # A part that is said twice, and a procedure that is never called.
        self.assert_apart(program((say("a"), ("while", ONE, (say("a"),))), {"p": ((), (), (say("x"),))}),
                          program((say("a"), ("while", ONE, (say("a"), ("while", ONE, (say("a"),))))),), None)
        nests = program((call("p"),), {"p": ((), ("x",), (say("a"), ("pick", "x"), ("if", var("x"), (call("p"), say("b")), (say("b"),))))})
        one = program((call("p"),), {"p": ((), (), (say("a"), ("either", (), ()), ("either", (call("p"),), ()), say("b")))})
        self.assert_apart(nests, one, None)

    def test_one_step(self):
        for body, text in (((say("a"), call("p"), say("d")), "a call:p c back:p quiet b"),
                           ((say("b"), call("p"), say("b")), "a"), ((say("a"), call("p")), "a call:p c back:p quiet back:main"),
                           ((say("a"), say("c"), call("p"), say("b")), "a call:p"),
                           ((say("a"), call("p"), ("set", "g", ONE), say("b")), "a call:p c back:p quiet b")):
            self.assert_apart(ENDS, program(body, {"p": ENDS["procs"]["p"]}, ("g",)), text)

    def test_a_name_of_a_procedure_alone(self):
        other = program((say("a"), call("q"), say("b")), {"q": ((), (), (say("c"),))})
        self.assert_apart(ENDS, other, "a call:p")

    def test_a_trace_that_only_one_goes_on_with(self):
        self.assert_apart(program((say("a"),)), program((say("a"), ("while", ONE, ()))), "a back:main")
        self.assert_apart(program((say("a"), call("main"))), program((say("a"), call("p")), {"p": ((), (), (say("a"), call("p")))}), "a call:main")
        down = program((say("a"), call("p")), {"p": ((), (), (call("p"),))})
        comes = program((say("a"), call("p")), {"p": ((), (), (("either", (call("p"),), ()),))})
        self.assert_apart(down, comes, "a call:p call:p")

    def test_deep_in_calls(self):
        # Only the fourth call in calls can say more.
        body = lambda last: (("if", var("h"), (("if", var("g"), (say(last),), (("set", "g", ONE), call("p"))),),
                              (("if", var("g"), (("set", "h", ONE), ("set", "g", ZERO), call("p")), (("set", "g", ONE), call("p"))),)), say("a"))
        first, second = [program((call("p"),), {"p": ((), (), body(last))}, ("g", "h")) for last in ("b", "c")]
        found = apart(first, second)
        self.assertEqual([letter for letter in found if letter[0] == "call"], [("call", "p")] * 4)
        self.assertEqual((found[-1], apart(second, first)), (plain("b"), found))
        # And what is said behind it, when all have come back.
        first, second = [program((call("p"), say(last)), {"p": ((), (), body("b"))}, ("g", "h")) for last in ("x", "y")]
        found = apart(first, second)
        self.assertEqual((found[-1], len([letter for letter in found if letter == ("back", "p")])), (plain("x"), 4))

    def test_by_chance(self):
        sizes = {}
        for seed in range(300):
            rng = chance(7000 + seed)
            first = some_program(rng)
            second = changed(rng, first) if seed % 4 else some_program(rng)
            found = apart(first, second)
            self.assertEqual(apart(second, first), found)
            words = tuple(sorted(set(names_of(first) + names_of(second))))
            self.assertEqual(difference(trace_machine(first), trace_machine(second), words), found)
            sizes[None if found is None else len(found)] = True
            for size, (left, right) in enumerate(zip(trace_levels(first, 12, 300), trace_levels(second, 12, 300))):
                if found is not None and size == len(found):
                    self.assertEqual(min(left ^ right), found)
                    break
                self.assertEqual(left, right)
        self.assertLessEqual({None, 1, 2, 3, 4, 5}, set(sizes))

    def test_arguments_stay(self):
        for sample in (ENDS, NESTS, DEEP):
            told, machine = copy.deepcopy(sample), trace_machine(NESTS)
            given = copy.deepcopy(machine)
            self.assertEqual(apart(told, NESTS), apart(told, NESTS))
            self.assertEqual(breach(told, machine), breach(told, machine))
            self.assertEqual(names_of(told), names_of(told))
            self.assertEqual((told, machine), (sample, given))


if __name__ == "__main__":
    unittest.main()
