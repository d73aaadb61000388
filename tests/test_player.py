import copy
import unittest

from calltowers.errors import EndedError
from calltowers.player import evaluate, first, step
from tests.samples import ALL_FORMS, DEEP, ONE, ZERO, program, var

QUIET = ("quiet", "")


def walk(told, choices):
    """The configurations and marks of the steps with these choices from the first configuration."""
    configuration = first(told)
    steps = []
    for choice in choices:
        configuration, mark = step(told, configuration, choice)
        steps.append((configuration, mark))
    return steps


class EvaluateTest(unittest.TestCase):
    def setUp(self):
        self.program = program(procs={"p": (("a",), ("b",), ())}, shared=("g", "h"), own=("x",))

    def flag(self, e, shared=(0, 0), values=(0, 0), proc="p"):
        flag = evaluate(self.program, proc, e, shared, values)
        self.assertIs(type(flag), int)
        return flag

    def test_flags_and_variables(self):
        self.assertEqual([self.flag(ZERO), self.flag(ONE)], [0, 1])
        for name, index in (("a", 0), ("b", 1)):
            for flag in (0, 1):
                values = (flag, 1 - flag) if index == 0 else (1 - flag, flag)
                self.assertEqual(self.flag(var(name), (1 - flag, 1 - flag), values), flag)
        for name, index in (("g", 0), ("h", 1)):
            for flag in (0, 1):
                shared = (flag, 1 - flag) if index == 0 else (1 - flag, flag)
                self.assertEqual(self.flag(var(name), shared, (1 - flag, 1 - flag)), flag)
        self.assertEqual(self.flag(var("x"), (0, 0), (1,), "main"), 1)

    def test_operations(self):
        tables = {"and": [0, 0, 0, 1], "or": [0, 1, 1, 1], "same": [1, 0, 0, 1]}
        for word, table in tables.items():
            told = [self.flag((word, var("a"), var("g")), (right, 0), (left, 0)) for left in (0, 1) for right in (0, 1)]
            self.assertEqual(told, table, word)
        self.assertEqual([self.flag(("not", var("b")), (0, 0), (0, flag)) for flag in (0, 1)], [1, 0])

    def test_nested(self):
        e = ("and", ("not", ("same", var("a"), var("b"))), ("or", var("g"), ("not", var("h"))))
        self.assertEqual(self.flag(e, (0, 1), (0, 1)), 0)
        self.assertEqual(self.flag(e, (1, 1), (0, 1)), 1)
        self.assertEqual(self.flag(e, (0, 0), (1, 0)), 1)
        self.assertEqual(self.flag(e, (0, 0), (1, 1)), 0)


class FirstTest(unittest.TestCase):
    def test_without_variables(self):
        self.assertEqual(first(program()), ((), None, (("main", 0, ()),)))

    def test_with_globals_and_locals(self):
        told = program(shared=("g", "h", "i"), own=("x", "y"))
        self.assertEqual(first(told), ((0, 0, 0), None, (("main", 0, (0, 0)),)))


class StepTest(unittest.TestCase):
    def assert_step(self, told, configuration, choice, after, mark):
        before = copy.deepcopy((told, configuration))
        self.assertEqual(step(told, configuration, choice), (after, mark))
        self.assertEqual((told, configuration), before)

    def assert_steps(self, told, configuration, after, mark):
        """The choice does not count."""
        self.assert_step(told, configuration, 0, after, mark)
        self.assert_step(told, configuration, 1, after, mark)

    def test_set(self):
        told = program((("set", "x", ("not", var("g"))), ("set", "g", ONE), ("set", "y", var("x"))),
                       shared=("f", "g"), own=("x", "y"))
        start = first(told)
        second = ((0, 0), None, (("main", 1, (1, 0)),))
        third = ((0, 1), None, (("main", 2, (1, 0)),))
        self.assert_steps(told, start, second, QUIET)
        self.assert_steps(told, second, third, QUIET)
        self.assert_steps(told, third, ((0, 1), None, (("main", 3, (1, 1)),)), QUIET)

    def test_set_back_to_zero(self):
        told = program((("set", "x", ZERO), ("set", "g", ZERO)), shared=("g",), own=("x",))
        self.assert_steps(told, ((1,), None, (("main", 0, (1,)),)), ((1,), None, (("main", 1, (0,)),)), QUIET)
        self.assert_steps(told, ((1,), None, (("main", 1, (1,)),)), ((0,), None, (("main", 2, (1,)),)), QUIET)

    def test_pick(self):
        told = program((("pick", "x"), ("pick", "g")), shared=("g",), own=("x",))
        for choice in (0, 1):
            for old in (0, 1):
                self.assert_step(told, ((old,), None, (("main", 0, (old,)),)), choice,
                                 ((old,), None, (("main", 1, (choice,)),)), QUIET)
                self.assert_step(told, ((old,), None, (("main", 1, (old,)),)), choice,
                                 ((choice,), None, (("main", 2, (old,)),)), QUIET)

    def test_say(self):
        told = program((("say", "hello"),))
        self.assert_steps(told, first(told), ((), None, (("main", 1, ()),)), ("say", "hello"))

    def test_if(self):
        told = program((("if", var("g"), (("say", "a"),), (("say", "b"),)), ("if", var("g"), (), ())), shared=("g",))
        self.assert_steps(told, ((1,), None, (("main", 0, ()),)), ((1,), None, (("main", 1, ()),)), QUIET)
        self.assert_steps(told, ((0,), None, (("main", 0, ()),)), ((0,), None, (("main", 2, ()),)), QUIET)
        self.assert_steps(told, ((1,), None, (("main", 1, ()),)), ((1,), None, (("main", 3, ()),)), ("say", "a"))
        self.assert_steps(told, ((0,), None, (("main", 2, ()),)), ((0,), None, (("main", 3, ()),)), ("say", "b"))
        for flag in (0, 1):
            self.assert_steps(told, ((flag,), None, (("main", 3, ()),)), ((flag,), None, (("main", 4, ()),)), QUIET)

    def test_while(self):
        told = program((("while", var("g"), (("pick", "g"),)), ("while", var("g"), ())), shared=("g",))
        self.assert_steps(told, ((1,), None, (("main", 0, ()),)), ((1,), None, (("main", 1, ()),)), QUIET)
        self.assert_steps(told, ((0,), None, (("main", 0, ()),)), ((0,), None, (("main", 2, ()),)), QUIET)
        self.assert_step(told, ((1,), None, (("main", 1, ()),)), 0, ((0,), None, (("main", 0, ()),)), QUIET)
        self.assert_steps(told, ((1,), None, (("main", 2, ()),)), ((1,), None, (("main", 2, ()),)), QUIET)
        self.assert_steps(told, ((0,), None, (("main", 2, ()),)), ((0,), None, (("main", 3, ()),)), QUIET)

    def test_either(self):
        told = program((("either", (("say", "a"),), (("say", "b"),)), ("either", (), (("say", "c"),))))
        self.assert_step(told, first(told), 0, ((), None, (("main", 1, ()),)), QUIET)
        self.assert_step(told, first(told), 1, ((), None, (("main", 2, ()),)), QUIET)
        self.assert_step(told, ((), None, (("main", 3, ()),)), 0, ((), None, (("main", 5, ()),)), QUIET)
        self.assert_step(told, ((), None, (("main", 3, ()),)), 1, ((), None, (("main", 4, ()),)), QUIET)

    def test_call_back_and_result(self):
        told = program((("say", "a"), ("call", "p", (var("x"), ("not", var("x"))), "y")),
                       {"p": (("a", "b"), ("c", "d"), (("back", var("b")),))}, shared=("g",), own=("x", "y"))
        waiting = ("main", -2, (1, 0))
        called = ((0,), None, (("p", 0, (1, 0, 0, 0)), waiting))
        self.assert_steps(told, ((0,), None, (("main", 1, (1, 0)),)), called, ("call", "p"))
        self.assert_steps(told, called, ((0,), 0, (waiting,)), ("back", "p"))
        self.assert_steps(told, ((0,), 0, (waiting,)), ((0,), None, (("main", 2, (1, 0)),)), QUIET)
        self.assert_steps(told, ((0,), 1, (waiting,)), ((0,), None, (("main", 2, (1, 1)),)), QUIET)
        self.assert_steps(told, ((0,), None, (("main", 2, (1, 1)),)), ((0,), 0, ()), ("back", "main"))

    def test_call_at_point_zero_waits_below_zero(self):
        told = program((("call", "p", (), ""),), {"p": ((), (), ())})
        self.assert_steps(told, first(told), ((), None, (("p", 0, ()), ("main", -1, ()))), ("call", "p"))

    def test_where_a_result_goes(self):
        told = program(procs={"p": (("a",), ("b",), (
            ("call", "q", (), "a"), ("call", "q", (), "b"), ("call", "q", (), "g"), ("call", "q", (), ""))),
            "q": ((), (), ())}, shared=("g",))
        below = ("main", -1, ())
        for flag in (0, 1):
            old = 1 - flag
            for point, shared, values in ((-1, (old,), (flag, old)), (-2, (old,), (old, flag)),
                                          (-3, (flag,), (old, old)), (-4, (old,), (old, old))):
                self.assert_steps(told, ((old,), flag, (("p", point, (old, old)), below)),
                                  (shared, None, (("p", -point, values), below)), QUIET)

    def test_result_behind_a_call_in_a_while(self):
        told = program((("while", ONE, (("call", "p", (), ""),)),), {"p": ((), (), ())})
        self.assert_steps(told, ((), 1, (("main", -2, ()),)), ((), None, (("main", 0, ()),)), QUIET)

    def test_params_can_be_set_picked_and_read(self):
        told = program(procs={"p": (("a",), ("b",), (("set", "b", var("a")), ("pick", "a"), ("set", "a", var("b"))))})
        below = ("main", -1, ())
        self.assert_steps(told, ((), None, (("p", 0, (1, 0)), below)), ((), None, (("p", 1, (1, 1)), below)), QUIET)
        self.assert_step(told, ((), None, (("p", 1, (1, 1)), below)), 0, ((), None, (("p", 2, (0, 1)), below)), QUIET)
        self.assert_steps(told, ((), None, (("p", 2, (0, 1)), below)), ((), None, (("p", 3, (1, 1)), below)), QUIET)

    def test_back_in_the_middle(self):
        told = program((("back", ("not", var("g"))), ("say", "never")), shared=("g",))
        self.assert_steps(told, ((1,), None, (("main", 0, ()),)), ((1,), 0, ()), ("back", "main"))
        self.assert_steps(told, ((0,), None, (("main", 0, ()),)), ((0,), 1, ()), ("back", "main"))

    def test_ended(self):
        told = program()
        for configuration in (((), 0, ()), ((), None, ()), ((), 1, ())):
            for choice in (0, 1):
                with self.assertRaises(EndedError) as caught:
                    step(told, configuration, choice)
                self.assertEqual(caught.exception.code, "ended")


class RunsTest(unittest.TestCase):
    def test_an_empty_program_ends_at_once(self):
        self.assertEqual(walk(program(), [0]), [(((), 0, ()), ("back", "main"))])

    def test_marks_of_all_forms(self):
        marks = [mark for _, mark in walk(ALL_FORMS, [1, 1, 0, 0, 0, 0, 0, 1] + [0] * 8)]
        self.assertEqual([mark for mark in marks if mark != QUIET], [
            ("say", "ho"), ("call", "q"), ("back", "q"), ("call", "q"), ("back", "q"), ("back", "main")])

    def test_a_recursion_some_hundred_frames_deep(self):
        depth = 400
        configuration = first(DEEP)
        configuration, mark = step(DEEP, configuration, 0)
        self.assertEqual(mark, ("call", "p"))
        for _ in range(depth):
            for expected in (QUIET, QUIET, ("call", "p")):
                configuration, mark = step(DEEP, configuration, 1)
                self.assertEqual(mark, expected)
        self.assertEqual(configuration, ((0,), None, (("p", 0, (0,)),) + (("p", -3, (1,)),) * depth + (("main", -1, ()),)))
        for expected in (QUIET, QUIET, ("back", "p")):
            configuration, mark = step(DEEP, configuration, 0)
            self.assertEqual(mark, expected)
        flag = 1
        for left in range(depth, 0, -1):
            self.assertEqual(configuration[1:], (flag, (("p", -3, (1,)),) * left + (("main", -1, ()),)))
            configuration, mark = step(DEEP, configuration, 0)
            self.assertEqual((configuration[0], configuration[1], mark), ((flag,), None, QUIET))
            configuration, mark = step(DEEP, configuration, 0)
            self.assertEqual(mark, ("back", "p"))
            flag = 1 - flag
        marks = []
        while configuration[2]:
            configuration, mark = step(DEEP, configuration, 0)
            marks.append(mark)
        self.assertEqual(marks, [QUIET, ("say", "done"), ("back", "main")])


if __name__ == "__main__":
    unittest.main()
