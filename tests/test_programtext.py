import itertools
import unittest

from calltowers.errors import TextError
from calltowers.programtext import program_text, read_program
from tests.samples import ALL_FORMS, DEEP, ONE, ZERO, nested_body, nested_not, program, var

ALL_FORMS_TEXT = """\
GLOBALS g h
PROC main
LOCALS x y
  SET x (g and (1 or (x same (not y))))
  PICK g
  IF x
    SAY hi
  IF x
    PASS
  ELSE
    SAY ho
  IF 0
    PASS
  WHILE (not g)
    PICK g
    WHILE 1
      PASS
  EITHER
    CALL p (x, (not 0)) TO y
  OR
    PASS
  EITHER
    PASS
  OR
    EITHER
      SAY a
    OR
      SAY b
  CALL q ()
  CALL q () TO h
  BACK y
PROC p a b
LOCALS c
  SET c a
  BACK (c same b)
PROC q
  PASS
"""


def text_of(*lines):
    return "".join(line + "\n" for line in lines)


def body_text(*lines):
    """The text of a program with only the procedure p, with these lines in its body."""
    return text_of("GLOBALS", "PROC p", *lines)


class WriteTest(unittest.TestCase):
    def test_all_forms(self):
        self.assertEqual(program_text(ALL_FORMS), ALL_FORMS_TEXT)

    def test_smallest(self):
        self.assertEqual(program_text(program()), "GLOBALS\nPROC main\n  PASS\n")

    def test_procedures_ascend(self):
        empty = ((), (), ())
        told = {"globals": ("b", "a"), "procs": {"q": empty, "main": empty, "p": (("z", "y"), (), ())}}
        self.assertEqual(program_text(told), text_of(
            "GLOBALS b a", "PROC main", "  PASS", "PROC p z y", "  PASS", "PROC q", "  PASS"))
        self.assertEqual(list(told["procs"]), ["q", "main", "p"])

    def test_each_statement(self):
        for statement, lines in (
            (("set", "x", ZERO), ["SET x 0"]), (("pick", "x"), ["PICK x"]), (("say", "hello"), ["SAY hello"]),
            (("call", "p", (), ""), ["CALL p ()"]), (("call", "p", (), "x"), ["CALL p () TO x"]),
            (("call", "p", (ONE,), ""), ["CALL p (1)"]),
            (("call", "p", (var("x"), ("or", ONE, ZERO), ONE), "x"), ["CALL p (x, (1 or 0), 1) TO x"]),
            (("back", ONE), ["BACK 1"]),
            (("if", var("x"), (("pick", "x"),), (("say", "a"), ("say", "b"))),
             ["IF x", "  PICK x", "ELSE", "  SAY a", "  SAY b"]),
            (("while", ONE, ()), ["WHILE 1", "  PASS"]),
            (("either", (), ()), ["EITHER", "  PASS", "OR", "  PASS"]),
        ):
            told = program((statement,), {"p": ((), (), ())}, shared=("x",))
            expected = ["GLOBALS x", "PROC main"] + ["  " + line for line in lines] + ["PROC p", "  PASS"]
            self.assertEqual(program_text(told), text_of(*expected))
            self.assertEqual(read_program(program_text(told)), told)

    def test_each_expression(self):
        for e, text in ((ZERO, "0"), (ONE, "1"), (var("x"), "x"), (("not", var("x")), "(not x)"),
                        (("and", ONE, var("x")), "(1 and x)"), (("or", var("x"), ONE), "(x or 1)"),
                        (("same", ("not", ("not", ONE)), ("and", ZERO, ("or", ONE, ZERO))),
                         "((not (not 1)) same (0 and (1 or 0)))")):
            told = program((("back", e),), shared=("x",))
            self.assertEqual(program_text(told), text_of("GLOBALS x", "PROC main", "  BACK " + text))
            self.assertEqual(read_program(program_text(told)), told)


class ReadRightTest(unittest.TestCase):
    def test_all_forms(self):
        told = read_program(ALL_FORMS_TEXT)
        self.assertEqual(told, ALL_FORMS)
        self.assertEqual(list(told), ["globals", "procs"])
        self.assertIsInstance(told["globals"], tuple)
        for proc in told["procs"].values():
            self.assertEqual([type(part) for part in proc], [tuple, tuple, tuple])

    def test_samples(self):
        for told in (DEEP, program(), program(nested_body(6, (("back", nested_not(8)),)))):
            self.assertEqual(read_program(program_text(told)), told)

    def test_new_dicts_at_each_call(self):
        told = read_program(ALL_FORMS_TEXT)
        told["procs"].clear()
        self.assertEqual(read_program(ALL_FORMS_TEXT), ALL_FORMS)

    def test_what_would_not_pass_the_check(self):
        self.assertEqual(read_program("GLOBALS\n"), {"globals": (), "procs": {}})
        self.assertEqual(read_program(text_of("GLOBALS a a b c d e", "PROC p a a", "LOCALS a a a a a", "  PICK z")),
                         {"globals": ("a", "a", "b", "c", "d", "e"),
                          "procs": {"p": (("a", "a"), ("a", "a", "a", "a", "a"), (("pick", "z"),))}})
        self.assertEqual(read_program(body_text("  CALL nowhere (1, z) TO z")),
                         {"globals": (), "procs": {"p": ((), (), (("call", "nowhere", (ONE, var("z")), "z"),))}})
        for told in (program(nested_body(9)), program(nested_body(9, (("back", nested_not(20)),))),
                     program((("back", ONE),) * 50),
                     program(procs={name: ((), (), ()) for name in ("a", "b", "c", "d", "e", "f", "z")})):
            self.assertEqual(read_program(program_text(told)), told)

    def test_no_depth_is_too_deep_to_read(self):
        deep = 3000
        lines = ["  " * k + "WHILE 1" for k in range(1, deep)] + ["  " * deep + "PASS"]
        body = read_program(body_text(*lines))["procs"]["p"][2]
        for _ in range(deep - 1):
            ((word, _, body),) = body
            self.assertEqual(word, "while")
        self.assertEqual(body, ())
        ((_, e),) = read_program(body_text("  BACK " + "(not " * deep + "1" + ")" * deep))["procs"]["p"][2]
        for _ in range(deep):
            self.assertEqual(e[0], "not")
            e = e[1]
        self.assertEqual(e, ONE)


class ReadWrongTest(unittest.TestCase):
    def assert_wrong(self, text, at):
        with self.assertRaises(TextError) as caught:
            read_program(text)
        self.assertEqual(caught.exception.at, at, text)

    def assert_wrong_body(self, at, *lines):
        """The index counts from the first line of the body."""
        self.assert_wrong(body_text(*lines), at + 2)

    def test_empty_text_and_missing_lines(self):
        self.assert_wrong("", 0)
        self.assert_wrong("\n", 0)
        self.assert_wrong("GLOBALS\nPROC p\n", 2)
        self.assert_wrong("GLOBALS\nPROC p\nLOCALS x\n", 3)
        self.assert_wrong_body(1, "  IF 1")
        self.assert_wrong_body(1, "  WHILE 1")
        self.assert_wrong_body(1, "  EITHER")
        self.assert_wrong_body(2, "  EITHER", "    PASS")
        self.assert_wrong_body(2, "  EITHER", "    SAY a")
        self.assert_wrong_body(3, "  EITHER", "    SAY a", "  OR")
        self.assert_wrong_body(3, "  IF 1", "    SAY a", "  ELSE")
        self.assert_wrong_body(3, "  EITHER", "    IF 1", "      PASS")

    def test_what_is_behind_the_last_newline(self):
        self.assert_wrong("GLOBALS", 0)
        self.assert_wrong("GLOBALS\nPROC p", 1)
        self.assert_wrong("GLOBALS\nPROC p\n  PASS", 2)
        self.assert_wrong("GLOBALS\nPROC p\n  PASS\n ", 3)
        self.assert_wrong(ALL_FORMS_TEXT[:-1], ALL_FORMS_TEXT.count("\n") - 1)
        self.assert_wrong(ALL_FORMS_TEXT + "PROC z", ALL_FORMS_TEXT.count("\n"))
        self.assert_wrong("GLOBALS\nPROC P\n  PASS", 1)

    def test_first_line(self):
        for line in ("", "GLOBAL", "globals", "PROC p", " GLOBALS", "  GLOBALS", "GLOBALS ", "GLOBALS  a", "GLOBALS a ",
                     "GLOBALS a  b", "GLOBALS A", "GLOBALS and", "GLOBALS ninechars", "GLOBALSa", "GLOBALS\ta",
                     "GLOBALS a\r", "GLOBALS 1", "  PASS"):
            self.assert_wrong(text_of(line, "PROC p", "  PASS"), 0)

    def test_line_of_a_procedure(self):
        for line in ("", "PROC", "PROC ", " PROC p", "  PROC p", "PROC  p", "PROC p ", "PROC p  a", "PROC P", "PROC not",
                     "PROC p 1", "PROC p same", "Proc p", "PROCp", "PROC p, a", "LOCALS a", "GLOBALS", "  PASS", "PASS",
                     "SAY a", "  SAY a", "ELSE", "OR"):
            self.assert_wrong(text_of("GLOBALS", line, "  PASS"), 1)

    def test_names_of_procedures_ascend(self):
        for first, second in (("p", "p"), ("q", "p"), ("pa", "p"), ("b", "ab"), ("main", "a")):
            self.assert_wrong(text_of("GLOBALS", "PROC " + first, "  PASS", "PROC " + second, "  PASS"), 3)
        self.assert_wrong(text_of("GLOBALS", "PROC a", "  PASS", "PROC c", "  PASS", "PROC b", "  PASS"), 5)
        self.assertEqual(list(read_program(text_of("GLOBALS", "PROC p", "  PASS", "PROC pa", "  PASS"))["procs"]), ["p", "pa"])

    def test_locals(self):
        for line in ("LOCALS", "LOCALS ", " LOCALS a", "  LOCALS a", "LOCALS  a", "LOCALS a ", "LOCALS A", "LOCALS or",
                     "LOCAL a", "LOCALS a  b"):
            self.assert_wrong_body(0, line, "  PASS")
        self.assert_wrong_body(1, "LOCALS a", "LOCALS b", "  PASS")
        self.assert_wrong_body(1, "  PASS", "LOCALS a")
        self.assert_wrong_body(1, "  SAY a", "LOCALS a")
        self.assert_wrong_body(1, "  IF 1", "LOCALS a", "    PASS")
        self.assert_wrong_body(1, "LOCALS a", "PROC q", "  PASS")

    def test_lines_of_no_form(self):
        for line in (
            "", " ", "  ", "  pass", "  PASS ", "  Pass", "  PASS PASS", "  SET", "  SET x", "  SET x ", "  SET  x 0",
            "  SET x  0", "  SET x 0 ", "  SET x 2", "  SET X 0", "  SET 0 0", "  SET x 0 0", "  SET x y z", "  SETx 0",
            "  SET not 0", "  PICK", "  PICK ", "  PICK x ", "  PICK  x", "  PICK x y", "  PICK 0", "  PICK and",
            "  SAY", "  SAY ninechars", "  SAY a b", "  SAY Hi", "  SAY or", "  SAY a\t", "  SAY a\r", "  CALL", "  CALL p", "  CALL p ",
            "  CALL p (", "  CALL p )", "  CALL p() ", "  CALL p()", "  CALL p  ()", "  CALL p ( )", "  CALL p () ",
            "  CALL p ()TO x", "  CALL p () TO", "  CALL p () TO ", "  CALL p ()  TO x", "  CALL p () TO  x", "  CALL p () x",
            "  CALL p () TO X", "  CALL p () TO same", "  CALL p () TO x y", "  CALL p () TO x ", "  CALL p () TO x)",
            "  CALL p () TO TO x", "  CALL p ()x", "  CALL p () T x", "  CALL P ()", "  CALL p q ()", "  CALL (1)", "  CALL p (1,0)", "  CALL p (1,  0)", "  CALL p (1, )",
            "  CALL p (, 1)", "  CALL p (,)", "  CALL p (1 , 0)", "  CALL p ( 1)", "  CALL p (1 )", "  CALL p (1 0)",
            "  CALL p (1, 0,)", "  CALL p (x", "  CALL p x)", "  CALL p ((1)", "  CALL p (1))", "  CALL p ((1))",
            "  BACK", "  BACK ", "  BACK  1", "  BACK 1 ", "  BACK x y", "  IF", "  IF ", "  IF 1:", "  WHILE", "  WHILE ",
            "  EITHER ", "  EITHER 1", "  ELSE", "  OR", "  ELSE ", "  TO x", "  FLAG 0", "  set x 0", "  PROC q", "  GLOBALS",
            "\tPASS", "  \tPASS", "  SAY\u00e9", "  SAY \u00e9", "  PASS\u2028", "  SAY a\x0b", "  SET x 01", "  BACK \u0661",
        ):
            self.assert_wrong_body(0, line)
            self.assert_wrong_body(1, "  SAY a", line)
            self.assert_wrong_body(3, "  IF 1", "    PASS", "  SAY b", line, "  SAY a")

    def test_expressions_of_no_form(self):
        for text in (
            "", " ", "2", "-1", "00", "X", "not", "and", "or", "same", "not x", "x and y", "(x)", "(1)", "()", "(", ")", "((not x)",
            "(not x", "not x)", "(not x))", "(not  x)", "( not x)", "(not x )", "(not(x))", "(not (x))", "(not)", "(not )",
            "(not not x)", "(and x y)", "(x and)", "(and x)", "(x  and y)", "(x and  y)", "(x and y )", "( x and y)",
            "(x and y and z)", "(x y z)", "(x And y)", "(x same y) ", " (x same y)", "(x or y", "x or y)", "(x xor y)",
            "((x or y) and z", "(x or y)(x or y)", "(x or y) z", "((not x)or y)", "(x or(not y))", "((x or y))", "(x, y)",
            "(x and (not))", "1 x and y)", "(not x) y or z)", "x not y)", "(not and x)", "(x not y)", "(x not (not y))", "ninechars", "(x and y))", "(1and 0)", "(x\nand y)",
        ):
            for start in ("SET x ", "BACK "):
                self.assert_wrong_body(0, "  " + start + text)
            for start in ("IF ", "WHILE "):
                self.assert_wrong_body(0, "  " + start + text, "    PASS")
            if text != "":
                self.assert_wrong_body(0, "  CALL p (" + text + ")")
            self.assert_wrong_body(0, "  CALL p (1, " + text + ")")

    def test_depth(self):
        for line in ("PASS", " PASS", "   PASS", "    PASS", "SAY a", " SAY a", "   SAY a", "    SAY a", "      SAY a"):
            self.assert_wrong_body(0, line)
        for line in ("SAY a", " SAY a", "   SAY a", "    SAY a", "      SAY a"):
            self.assert_wrong_body(1, "  SAY a", line)
        for first in ("  IF 1", "  WHILE 1", "  EITHER"):
            for line in ("PASS", "  PASS", "   PASS", "     PASS", "      PASS", "  SAY a", "      SAY a", "  ELSE", "  OR",
                         "PROC q", "    ELSE", "    OR"):
                self.assert_wrong_body(1, first, line)
            for line in ("    SAY a", "    PASS"):
                self.assert_wrong_body(2, first, line, "      SAY a")
                self.assert_wrong_body(2, first, line, "   SAY a")
                self.assert_wrong_body(2, first, line, "SAY a")

    def test_pass_is_the_only_line_of_its_body(self):
        for line in ("  PASS", "  SAY a", "  IF 1", "  EITHER", "  ELSE", "  OR", "    SAY a", "    PASS"):
            self.assert_wrong_body(1, "  PASS", line)
        self.assert_wrong_body(1, "  SAY a", "  PASS")
        self.assert_wrong_body(2, "  WHILE 1", "    PASS", "    PASS")
        self.assert_wrong_body(2, "  WHILE 1", "    PASS", "    SAY a")
        self.assert_wrong_body(2, "  WHILE 1", "    SAY a", "    PASS")
        self.assert_wrong_body(2, "  WHILE 1", "    PASS", "  PASS")
        self.assert_wrong_body(4, "  EITHER", "    PASS", "  OR", "    PASS", "    PASS")

    def test_else(self):
        self.assert_wrong_body(3, "  IF 1", "    SAY a", "  ELSE", "    PASS")
        self.assert_wrong_body(3, "  IF 1", "    PASS", "  ELSE", "  SAY a")
        self.assert_wrong_body(4, "  IF 1", "    PASS", "  ELSE", "    SAY a", "  ELSE")
        self.assert_wrong_body(2, "  WHILE 1", "    PASS", "  ELSE")
        self.assert_wrong_body(2, "  EITHER", "    PASS", "  ELSE")
        self.assert_wrong_body(4, "  EITHER", "    PASS", "  OR", "    PASS", "  ELSE")
        self.assert_wrong_body(2, "  IF 1", "    PASS", "  ELSE ", "    SAY a")
        self.assert_wrong_body(2, "  IF 1", "    PASS", "    ELSE", "    SAY a")
        self.assert_wrong_body(3, "  IF 1", "    PASS", "  SAY a", "  ELSE")
        self.assert_wrong_body(2, "  IF 1", "    IF 1", "    ELSE")
        self.assert_wrong_body(2, "  IF 1", "    IF 1", "  ELSE")

    def test_or(self):
        self.assert_wrong_body(2, "  EITHER", "    PASS", "  SAY a")
        self.assert_wrong_body(2, "  EITHER", "    SAY a", "  EITHER")
        self.assert_wrong_body(2, "  EITHER", "    SAY a", "PROC q", "  PASS")
        self.assert_wrong_body(2, "  EITHER", "    SAY a", "    OR", "    PASS")
        self.assert_wrong_body(2, "  IF 1", "    SAY a", "  OR")
        self.assert_wrong_body(2, "  WHILE 1", "    SAY a", "  OR")
        self.assert_wrong_body(4, "  EITHER", "    PASS", "  OR", "    SAY a", "  OR")
        self.assert_wrong_body(3, "  EITHER", "    EITHER", "      PASS", "  OR")
        self.assert_wrong_body(3, "  EITHER", "    PASS", "  OR", "  SAY a")
        self.assert_wrong_body(3, "  IF 1", "    EITHER", "      PASS", "  ELSE")

    def test_a_deeper_body_ends_for_else_and_or(self):
        told = read_program(body_text(
            "  EITHER", "    IF 1", "      WHILE 0", "        PASS", "    ELSE", "      SAY a", "  OR", "    IF 0",
            "      PASS", "  IF 1", "    IF 0", "      SAY b", "  ELSE", "    SAY c"))
        self.assertEqual(told["procs"]["p"][2], (
            ("either", (("if", ONE, (("while", ZERO, ()),), (("say", "a"),)),), (("if", ZERO, (), ()),)),
            ("if", ONE, (("if", ZERO, (("say", "b"),), ()),), (("say", "c"),))))


# All bodies of few lines, told by their lines, with statements nested once.
LINES = ("  SAY a", "  PASS", "  IF 1", "  ELSE", "  EITHER", "  OR", "    SAY a", "    PASS")


def inner_bodies(most, can_be_empty):
    told = [("    SAY a",) * many for many in range(1, most + 1)]
    return told + [("    PASS",)] if can_be_empty else told


def statements(most):
    yield ("  SAY a",)
    for one in inner_bodies(most - 1, True):
        yield ("  IF 1",) + one
        for two in inner_bodies(most - 2 - len(one), False):
            yield ("  IF 1",) + one + ("  ELSE",) + two
        for two in inner_bodies(most - 2 - len(one), True):
            yield ("  EITHER",) + one + ("  OR",) + two


def bodies(most):
    """All right bodies with at most so many lines, and the empty one as no lines."""
    told = {()}
    fresh = {()}
    while fresh:
        fresh = {begun + statement for begun in fresh for statement in statements(most - len(begun))
                 if len(begun + statement) <= most} - told
        told |= fresh
    return told - {()} | {("  PASS",)}


class AllShortTextsTest(unittest.TestCase):
    def test_all_bodies_of_five_lines(self):
        # A body that has begun can be ended by three more lines.
        right = bodies(8)
        begun = {body[:many] for body in right for many in range(len(body) + 1)}
        for many in range(6):
            for lines in itertools.product(LINES, repeat=many):
                text = body_text(*lines)
                try:
                    told = read_program(text)
                except TextError as error:
                    wrong = next((k for k in range(many) if lines[:k + 1] not in begun), many)
                    self.assertEqual(error.at, wrong + 2, text)
                    self.assertTrue(lines not in right, text)
                else:
                    self.assertTrue(lines in right, text)
                    self.assertEqual(program_text(told), text)


if __name__ == "__main__":
    unittest.main()
