import unittest

from calltowers.errors import ProgramError
from calltowers.programs import check_program, is_name
from tests.samples import ALL_FORMS, DEEP, ONE, ZERO, nested_body, nested_not, program, var


class IsNameTest(unittest.TestCase):
    def test_lengths(self):
        self.assertIs(is_name(""), False)
        self.assertIs(is_name("a"), True)
        self.assertIs(is_name("abcdefgh"), True)
        self.assertIs(is_name("abcdefghi"), False)

    def test_letters(self):
        for text in ("z", "main", "az", "ands", "no", "nota", "flag", "call"):
            self.assertIs(is_name(text), True, text)
        for text in ("A", "aB", "a1", "1", " a", "a ", "a b", "a_b", "a-b", "a\n", "\u00e9", "\u0430", "(a", ":", "\u01c6"):
            self.assertIs(is_name(text), False, text)

    def test_words_of_expressions(self):
        for text in ("and", "or", "not", "same"):
            self.assertIs(is_name(text), False, text)


def snapshot(told):
    """What a program consists of; its tuples cannot change, only its dicts."""
    return list(told.items()), list(told["procs"].items())


class CheckTest(unittest.TestCase):
    def assert_right(self, told):
        self.assertIsNone(check_program(told))

    def assert_fails(self, code, proc, told):
        before = snapshot(told)
        with self.assertRaises(ProgramError) as caught:
            check_program(told)
        self.assertEqual((caught.exception.code, caught.exception.proc), (code, proc))
        self.assertIs(snapshot(told) == before, True)

    def assert_form(self, statement):
        self.assert_fails("form", "main", program((statement,), shared=("g",)))


class RightProgramsTest(CheckTest):
    def test_samples(self):
        before = snapshot(ALL_FORMS)
        self.assert_right(ALL_FORMS)
        self.assertEqual(snapshot(ALL_FORMS), before)
        self.assert_right(DEEP)
        self.assert_right(program())

    def test_each_statement_alone(self):
        for statement in (
            ("set", "g", ONE), ("pick", "g"), ("say", "word"), ("call", "main", (), ""), ("call", "main", (), "g"),
            ("call", "p", (ONE, var("g")), "g"), ("back", ZERO), ("if", ONE, (), ()), ("while", ONE, ()),
            ("either", (), ()), ("if", ONE, (("pick", "g"),), (("pick", "g"),)),
        ):
            self.assert_right(program((statement,), {"p": (("a", "b"), (), ())}, shared=("g",)))

    def test_each_expression_alone(self):
        for e in (ZERO, ONE, var("g"), ("not", ONE), ("and", ONE, ZERO), ("or", var("g"), ONE), ("same", ONE, ONE)):
            self.assert_right(program((("back", e),), shared=("g",)))


class FormTest(CheckTest):
    def test_another_number_of_parts(self):
        for statement in (
            (), ("set",), ("set", "g"), ("set", "g", ONE, ONE), ("pick",), ("pick", "g", "g"), ("say",),
            ("say", "a", "b"), ("call", "main", ()), ("call", "main", (), "", ""), ("back",), ("back", ONE, ONE),
            ("if", ONE, ()), ("if", ONE, (), (), ()), ("while", ONE), ("while", ONE, (), ()), ("either", ()),
            ("either", (), (), ()),
        ):
            self.assert_form(statement)
        for e in (
            (), ("flag",), ("flag", 0, 0), ("var",), ("var", "g", "g"), ("not",), ("not", ONE, ONE), ("and", ONE),
            ("and", ONE, ONE, ONE), ("or", ONE), ("or", ONE, ONE, ONE), ("same", ONE), ("same", ONE, ONE, ONE),
        ):
            self.assert_form(("back", e))

    def test_a_wrong_first_word(self):
        for statement in (("sets", "g", ONE), ("SET", "g", ONE), (0, "g"), (("pick",), "g"), "pick", 1, "",
                          ("flag", 0), ("var", "g"), ("not", ONE)):
            self.assert_form(statement)
        for e in (("true",), ("Flag", 0), (0,), (("flag",), 0), "g", 0, 1, ("back", ONE), ("pick", "g"), ("xor", ONE, ONE)):
            self.assert_form(("back", e))

    def test_a_part_of_the_wrong_kind(self):
        for statement in (
            ("set", "", ONE), ("set", 1, ONE), ("set", "G", ONE), ("set", "and", ONE), ("set", var("g"), ONE),
            ("set", "g", 1), ("set", "g", "g"), ("pick", ""), ("pick", 0), ("pick", ("g",)), ("say", ""), ("say", "a b"),
            ("say", 3), ("call", "", (), ""), ("call", 1, (), ""), ("call", "main", ONE, ""), ("call", "main", "", ""),
            ("call", "main", 0, ""), ("call", "main", (1,), ""), ("call", "main", (), 0), ("call", "main", (), "not"),
            ("call", "main", (), ()), ("back", "g"), ("if", 1, (), ()), ("if", ONE, "", ()), ("if", ONE, (), 0),
            ("if", ONE, ("pick", "g"), ()), ("if", ONE, (), ("pick", "g")), ("while", (), ()), ("while", ONE, 1),
            ("while", ONE, ("say", "a")), ("either", "", ()), ("either", (), 1), ("either", (), ("pick", "g")),
        ):
            self.assert_form(statement)
        for e in (
            ("flag", 2), ("flag", -1), ("flag", "0"), ("flag", True), ("flag", False), ("flag", ()), ("var", ""),
            ("var", "same"), ("var", "G"), ("var", 0), ("var", ONE), ("not", 1), ("not", "g"), ("and", ONE, 1),
            ("and", "g", ONE), ("or", ONE, ()), ("or", 0, ONE), ("same", ONE, "g"), ("same", (), ONE),
        ):
            self.assert_form(("back", e))
            self.assert_form(("set", "g", e))
            self.assert_form(("call", "main", (e,), ""))
            self.assert_form(("if", e, (), ()))
            self.assert_form(("while", e, ()))

    def test_a_wrong_form_inside(self):
        wrong = ("pick", "")
        for statement in (("if", ONE, (wrong,), ()), ("if", ONE, (), (wrong,)), ("while", ONE, (wrong,)),
                          ("either", (wrong,), ()), ("either", (), (wrong,))):
            self.assert_form(statement)
        for e in (("not", ("flag", 2)), ("and", ("flag", 2), ONE), ("or", ONE, ("flag", 2)), ("same", ONE, ("flag", 2))):
            self.assert_form(("back", e))

    def test_a_body_that_is_no_tuple(self):
        self.assert_fails("form", "main", program("pick"))
        self.assert_fails("form", "main", program(0))
        self.assert_fails("form", "main", program(("pick", "g"), shared=("g",)))

    def test_depth_of_expressions(self):
        self.assert_right(program((("back", nested_not(8)),)))
        self.assert_form(("back", nested_not(9)))
        self.assert_form(("back", nested_not(3000)))
        for word in ("and", "or", "same"):
            self.assert_right(program((("back", (word, ONE, nested_not(7))),)))
            self.assert_form(("back", (word, ONE, nested_not(8))))
            self.assert_form(("back", (word, nested_not(8), ONE)))
        self.assert_right(program(nested_body(6, (("back", nested_not(8)),))))
        self.assert_right(program((("call", "p", (nested_not(8),), ""),), {"p": (("a",), (), ())}))
        self.assert_form(("call", "p", (nested_not(9),), ""))

    def test_depth_of_bodies(self):
        self.assert_right(program(nested_body(6)))
        self.assert_right(program(nested_body(6, (("say", "a"),))))
        self.assert_fails("form", "main", program(nested_body(7)))
        self.assert_fails("form", "main", program(nested_body(7, (("say", "a"),))))
        self.assert_fails("form", "main", program(nested_body(3000)))
        for inner in (("if", ONE, (), ()), ("either", (), ())):
            self.assert_right(program(nested_body(5, (inner,))))
            self.assert_fails("form", "main", program(nested_body(6, (inner,))))


class CodesTest(CheckTest):
    def test_globals(self):
        self.assert_right(program(shared=("a", "b", "c", "d")))
        self.assert_fails("globals", "", program(shared=("a", "b", "c", "d", "e")))
        self.assert_fails("globals", "", program(shared=("a", "b", "a")))
        for wrong in ("", "A", "not", 3, (), ("a",)):
            self.assert_fails("globals", "", program(shared=("a", wrong)))

    def test_main(self):
        empty = ((), (), ())
        names = ("p", "q", "r", "s", "t", "u")
        self.assert_right(program(procs={name: empty for name in names[:5]}))
        self.assert_fails("main", "", program(procs={name: empty for name in names}))
        self.assert_fails("main", "", {"globals": (), "procs": {}})
        self.assert_fails("main", "", {"globals": (), "procs": {"p": empty}})
        self.assert_fails("main", "", program(procs={"main": (("a",), (), ())}))
        for wrong in ("", "P", "and", "ninechars", 4, ("p",)):
            self.assert_fails("main", "", program(procs={wrong: empty}))

    def test_names(self):
        for names in ((("a", "b"), ("c", "d")), (("a", "b", "c", "d"), ()), ((), ("a", "b", "c", "d"))):
            self.assert_right(program(procs={"p": names + ((),)}))
        for names in (
            (("a", "b", "c"), ("d", "e")), (("a", "b", "c", "d", "e"), ()), ((), ("a", "b", "c", "d", "e")),
            (("a", "a"), ()), ((), ("a", "a")), (("a",), ("a",)), (("A",), ()), ((), ("same",)), ((3,), ()),
            ((), (("a",),)), (("g",), ()), ((), ("g",)), (("a",), ("g",)),
        ):
            self.assert_fails("names", "p", program(procs={"p": names + ((),)}, shared=("g",)))
        self.assert_fails("names", "main", program(own=("x", "g"), shared=("g",)))
        self.assert_right(program(own=("main", "p"), procs={"p": (("p",), (), ())}))

    def test_points(self):
        quiet = ("back", ONE)
        self.assert_right(program((quiet,) * 39))
        self.assert_fails("points", "main", program((quiet,) * 40))
        inside = (("if", ONE, (quiet,) * 10, (("while", ONE, (quiet,) * 9),)), ("either", (quiet,) * 8, (quiet,) * 8))
        self.assert_right(program(inside + (quiet,)))
        self.assert_fails("points", "main", program(inside + (quiet, quiet)))

    def test_variable_in_each_place(self):
        for statement in (
            ("set", "z", ONE), ("set", "g", var("z")), ("pick", "z"), ("call", "main", (), "z"),
            ("call", "p", (var("z"),), ""), ("call", "p", (("not", var("z")),), "g"), ("back", var("z")),
            ("if", var("z"), (), ()), ("while", var("z"), ()), ("back", ("not", var("z"))),
            ("back", ("and", var("z"), ONE)), ("back", ("and", ONE, var("z"))), ("back", ("or", var("z"), ONE)),
            ("back", ("or", ONE, var("z"))), ("back", ("same", var("z"), ONE)), ("back", ("same", ONE, var("z"))),
        ):
            for body in ((statement,), (("if", ONE, (statement,), ()),), (("if", ONE, (), (statement,)),),
                         (("while", ONE, (statement,)),), (("either", (statement,), ()),),
                         (("either", (), (statement,)),)):
                procs = {"p": (("a",), ("z",), ())}
                self.assert_fails("variable", "main", program(body, procs, shared=("g",)))
                self.assert_right(program(body, procs, shared=("g", "h"), own=("z",)))
                self.assert_right(program(body, {"p": (("a",), (), ())}, shared=("g", "z")))

    def test_words_and_procs_are_no_variables(self):
        self.assert_right(program((("say", "z"), ("call", "p", (), "")), {"p": ((), (), ())}))

    def test_call(self):
        procs = {"p": (("a", "b"), ("c",), ()), "q": ((), (), ())}
        self.assert_right(program((("call", "p", (ONE, ONE), ""), ("call", "q", (), ""), ("call", "main", (), "")), procs))
        for statement in (("call", "r", (), ""), ("call", "p", (), ""), ("call", "p", (ONE,), ""),
                          ("call", "p", (ONE, ONE, ONE), ""), ("call", "q", (ONE,), ""), ("call", "main", (ONE,), "")):
            self.assert_fails("call", "main", program((statement,), procs))
            self.assert_fails("call", "main", program((("while", ONE, (statement,)),), procs))


# For each code that belongs to a procedure, what makes it fail: (locals, statements).
WRONG = {
    "names": (("q", "q"), ()),
    "form": ((), (("say", ""),)),
    "points": ((), (("back", ONE),) * 40),
    "variable": ((), (("pick", "nowhere"),)),
    "call": ((), (("call", "nowhere", (), ""),)),
}
ORDER = ("names", "form", "points", "variable", "call")


class FirstCodeTest(CheckTest):
    def both(self, early, late):
        return WRONG[early][0] + WRONG[late][0], WRONG[early][1] + WRONG[late][1]

    def test_each_alone(self):
        for code in ORDER:
            own, body = WRONG[code]
            self.assert_fails(code, "p", program(procs={"p": ((), own, body)}))

    def test_the_one_listed_first(self):
        for index, early in enumerate(ORDER):
            for late in ORDER[index + 1:]:
                own, body = self.both(early, late)
                self.assert_fails(early, "p", program(procs={"p": ((), own, body)}))
                self.assert_fails(early, "p", program(procs={"p": ((), own, body[::-1])}))

    def test_globals_and_main_come_first(self):
        for code in ORDER:
            own, body = WRONG[code]
            self.assert_fails("globals", "", program(body, shared=("a", "a"), own=own))
            self.assert_fails("main", "", {"globals": (), "procs": {"p": ((), own, body)}})
        self.assert_fails("globals", "", {"globals": ("A",), "procs": {}})

    def test_the_first_procedure(self):
        for early in ORDER:
            for late in ORDER:
                first = ((),) + WRONG[late]
                second = ((),) + WRONG[early]
                self.assert_fails(late, "a", program(procs={"z": second, "a": first}))
                self.assert_fails(late, "a", program(procs={"a": first, "z": second}))
                self.assert_fails(late, "main", program(WRONG[late][1], {"z": second}, own=WRONG[late][0]))


if __name__ == "__main__":
    unittest.main()
