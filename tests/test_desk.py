import itertools
import unittest

from calltowers.decide import can_say, decide, depth
from calltowers.desk import Desk
from calltowers.programtext import program_text, read_program
from calltowers.promises import is_promise
from calltowers.promisetext import promise_text, read_promise
from calltowers.reports import report
from calltowers.rounds import length
from tests.chance import chance, some_program, some_promise
from tests.samples import ALL_FORMS, DEEP, ONE, program

NO = "NO COMMAND"
# It calls p again and again, which says a.
CALLS = program((("while", ONE, (("call", "p", (), ""),)),), {"p": ((), (), (("say", "a"),))})
TEXT = program_text(CALLS)


def broken(told, text):
    """What the desk says of a promise that a program breaks."""
    word, (parts, begin, again) = decide(told, read_promise(text))
    assert word == "broken"
    return f"BROKEN {length(parts, begin)} {length(parts, again)}"


def desk_with(text, *promises):
    """A desk with the program of a text and promises: pairs of a name and a text."""
    desk = Desk()
    assert desk.answer("PROGRAM\n" + text) == "OK"
    for name, promise in promises:
        assert desk.answer(f"PROMISE {name}\n{promise}") == "OK"
    return desk


class DeskTest(unittest.TestCase):
    def assert_answers(self, desk, *pairs):
        for text, expected in pairs:
            self.assertEqual(desk.answer(text), expected, text)

    def test_a_new_desk(self):
        desk = Desk()
        self.assert_answers(desk, ("LIST", ""), ("DECIDE a", NO), ("DEPTH", NO), ("CAN a", NO), ("REPORT a 0", NO))

    def test_without_a_program(self):
        desk = Desk()
        self.assert_answers(desk, ("PROMISE a\nyes", "OK"), ("LIST", "a"), ("DECIDE a", NO), ("REPORT a 5", NO), ("DEPTH", NO),
                            ("CAN a", NO), ("PROGRAM\n" + TEXT, "OK"), ("LIST", ""), ("DECIDE a", NO))

    def test_program(self):
        for told in (CALLS, DEEP, ALL_FORMS, program()):
            self.assert_answers(Desk(), ("PROGRAM\n" + program_text(told), "OK"))

    def test_a_wrong_text(self):
        desk = desk_with(TEXT, ("a", "yes"))
        lines = TEXT.split("\n")[:-1]
        self.assert_answers(
            desk, ("PROGRAM\n", "NO TEXT 0"), ("PROGRAM\nx\n", "NO TEXT 0"), ("PROGRAM\n\n" + TEXT, "NO TEXT 0"),
            ("PROGRAM\nGLOBALS\nPROC main\n   PASS\n", "NO TEXT 2"), ("PROGRAM\n" + TEXT + "x\n", f"NO TEXT {len(lines)}"),
            ("PROGRAM\n" + TEXT + "\n", f"NO TEXT {len(lines)}"), ("PROGRAM\n" + TEXT[:-1], f"NO TEXT {len(lines) - 1}"),
            ("PROGRAM\n" + "".join(line + "\n" for line in lines[:-1]), f"NO TEXT {len(lines) - 1}"),
        )
        # All stays as it is.
        self.assert_answers(desk, ("LIST", "a"), ("DECIDE a", "KEPT"), ("CAN a", "YES 3"))

    def test_a_program_that_does_not_pass_the_check(self):
        desk = desk_with(TEXT, ("a", "yes"))
        main = "GLOBALS\nPROC main\n"
        for text, expected in (
            ("GLOBALS a b c d e\nPROC main\n  PASS\n", "NO globals"), ("GLOBALS a a\nPROC main\n  PASS\n", "NO globals"),
            ("GLOBALS\n", "NO main"), ("GLOBALS\nPROC p\n  PASS\n", "NO main"), ("GLOBALS\nPROC main x\n  PASS\n", "NO main"),
            ("GLOBALS x\nPROC main\nLOCALS x\n  PASS\n", "NO names main"),
            (main + "  PASS\nPROC p a b c\nLOCALS d e\n  PASS\n", "NO names p"),
            (main + "".join("  " * depth + "WHILE 1\n" for depth in range(1, 7)) + "  " * 7 + "PASS\n", "NO form main"),
            (main + "  SAY a\n" * 40, "NO points main"), (main + "  SET x 1\n", "NO variable main"),
            (main + "  CALL q ()\nPROC p\n  PASS\n", "NO call main"), (main + "  PASS\nPROC p\n  CALL main (0)\n", "NO call p"),
            (main + "  BACK " + "(not " * 8 + "1" + ")" * 8 + "\n", "NO form main"),
        ):
            self.assert_answers(desk, ("PROGRAM\n" + text, expected), ("LIST", "a"), ("CAN a", "YES 3"))

    def test_a_right_program_drops_the_promises(self):
        desk = desk_with(TEXT, ("a", "say"), ("b", "yes"))
        self.assert_answers(desk, ("DECIDE a", broken(CALLS, "say")), ("LIST", "a b"), ("PROGRAM\n" + program_text(DEEP), "OK"),
                            ("LIST", ""), ("DECIDE a", NO), ("REPORT a 1", NO), ("DEPTH", "ENDLESS"), ("CAN a", "NO"),
                            ("CAN done", "YES 6"), ("PROMISE a\ncall", "OK"), ("DECIDE a", "KEPT"))
        # Also if it is the same one.
        self.assert_answers(desk, ("PROGRAM\n" + program_text(DEEP), "OK"), ("LIST", ""))

    def test_promise(self):
        desk = desk_with(TEXT)
        self.assert_answers(
            desk, ("PROMISE a\n(yes until say:a)", "OK"), ("DECIDE a", "KEPT"), ("PROMISE b\n", "NO PROMISE 0"),
            ("PROMISE a\n(yes until say:a", "NO PROMISE 16"), ("PROMISE a\nnot  yes", "NO PROMISE 4"),
            ("PROMISE a\nyes ", "NO PROMISE 3"), ("PROMISE a\nyes\n", "NO PROMISE 3"), ("PROMISE a\nyes\nyes", "NO PROMISE 3"),
            ("PROMISE b\nsay:not", "NO PROMISE 7"), ("PROMISE b\n" + "not " * 8 + "yes", "NO PROMISE 32"), ("LIST", "a"),
            ("DECIDE a", "KEPT"),
        )
        # A second one takes its place, also where the first one has been decided.
        self.assert_answers(desk, ("PROMISE a\n(yes until say:b)", "OK"), ("DECIDE a", broken(CALLS, "(yes until say:b)")), ("LIST", "a"),
                            ("PROMISE a\nyes", "OK"), ("DECIDE a", "KEPT"), ("REPORT a 3", "KEPT"))

    def test_names(self):
        desk = desk_with(TEXT)
        for name in ("", "A", "and", "or", "not", "same", "abcdefghi", "a1", "x_y", "\u00e4", "yes:", "a\t"):
            self.assert_answers(desk, (f"PROMISE {name}\nyes", NO), (f"DECIDE {name}", NO), (f"REPORT {name} 0", NO),
                                (f"CAN {name}", NO))
        for name in ("a", "yes", "until", "abcdefgh", "main"):
            self.assert_answers(desk, (f"PROMISE {name}\nyes", "OK"), (f"DECIDE {name}", "KEPT"), (f"CAN {name}", "YES 3" if name == "a" else "NO"))
        self.assert_answers(desk, ("LIST", "a abcdefgh main until yes"))

    def test_decide(self):
        desk = desk_with(TEXT, ("a", "(yes until say:a)"), ("b", "quiet"), ("c", "say:b"))
        self.assert_answers(desk, ("DECIDE a", "KEPT"), ("DECIDE b", "KEPT"), ("DECIDE c", broken(CALLS, "say:b")), ("DECIDE d", NO))
        # A round takes 5 steps: while, call, say, back, and the result.
        self.assertIn(desk.answer("DECIDE c"), [f"BROKEN {n} {5 * k}" for n in range(9) for k in (1, 2)])

    def test_decide_with_lengths_that_are_written_out(self):
        procs = {name: ((), (), (("call", below, (), ""),) * 4) for name, below in zip("pqrs", "qrst")}
        told = program((("call", "p", (), ""), ("while", ONE, ())), {**procs, "t": ((), (), (("say", "a"),))})
        desk = desk_with(program_text(told), ("a", "not yes"))
        # A call takes 3 steps beside those of its procedure; each one of p, q, r and s makes 4 calls.
        size = 2
        for _ in range(4):
            size = 4 * (2 + size) + 1
        self.assert_answers(desk, ("DECIDE a", f"BROKEN {size + 2} 1"), ("CAN a", "YES 6"), ("DEPTH", "DEEP 6"))

    def test_depth(self):
        self.assert_answers(desk_with(TEXT), ("DEPTH", "DEEP 2"))
        self.assert_answers(desk_with(program_text(DEEP)), ("DEPTH", "ENDLESS"))
        self.assert_answers(desk_with(program_text(program())), ("DEPTH", "DEEP 1"))

    def test_can(self):
        self.assert_answers(desk_with(TEXT), ("CAN a", "YES 3"), ("CAN b", "NO"), ("CAN p", "NO"), ("CAN done", "NO"))
        self.assert_answers(desk_with(program_text(DEEP)), ("CAN done", "YES 6"))

    def test_report(self):
        desk = desk_with(TEXT, ("a", "say:b"), ("b", "yes"))
        rows = ["0 1 quiet", "1 2 call p", "2 2 say a", "3 1 back p", "4 1 quiet", "5 1 quiet", "6 2 call p"]
        for n in range(8):
            self.assert_answers(desk, (f"REPORT a {n}", "".join(row + "\n" for row in rows[:n])), (f"REPORT b {n}", "KEPT"), (f"REPORT c {n}", NO))
        told = desk.answer("REPORT a 1000").splitlines(keepends=True)
        self.assertEqual(len(told), 1000)
        self.assertEqual(told[-1], "999 1 quiet\n")
        self.assertEqual(desk.answer("REPORT a 999"), "".join(told[:-1]))

    def test_numbers(self):
        desk = desk_with(TEXT, ("a", "say:b"), ("b", "yes"))
        for number in ("1001", "01", "00", "-1", "+1", "", "1.0", "1e2", " 1", "1_0", "0x1", "a", "\u0661", "\u00b2", "9" * 5000, "10000"):
            self.assert_answers(desk, (f"REPORT a {number}", NO), (f"REPORT b {number}", NO))
        self.assert_answers(desk, ("REPORT a 0", ""), ("REPORT b 0", "KEPT"), ("REPORT b 1000", "KEPT"), ("REPORT a", NO),
                            ("REPORT", NO), ("REPORT 5", NO))

    def test_list(self):
        desk = desk_with(TEXT, ("c", "yes"), ("ab", "yes"), ("b", "yes"), ("a", "yes"))
        self.assert_answers(desk, ("LIST", "a ab b c"))
        self.assert_answers(desk_with(TEXT, ("a", "yes")), ("LIST", "a"))

    def test_other_texts(self):
        desk = desk_with(TEXT, ("a", "say"), ("b", "yes"))
        for text in ("", " ", "\n", "x", "list", "List", "PROGRAM", "PROMISE", "PROMISE a", "PROMISE a yes", "DECIDE", "CAN", "REPORT",
                     "DECIDE a b", "DECIDE a a", "DEPTH a", "LIST a", "CAN a b", "REPORT a 1 2", "REPORT a b 1", "PROMISE a b\nyes",
                     "PROMISE\nyes", "PROGRAM x\n" + TEXT, "PROGRAM\nyes".lower()):
            self.assert_answers(desk, (text, NO))
        for text in ("DECIDE a", "DEPTH", "LIST", "CAN a", "REPORT a 1"):
            for other in (text + " ", " " + text, text.replace(" ", "  "), text + "\n", text + "\nyes", "\n" + text, text + "\t",
                          text.replace(" ", "\t"), text.lower(), text + "\r"):
                if other != text:
                    self.assert_answers(desk, (other, NO))
        for text in ("PROGRAM \n" + TEXT, " PROGRAM\n" + TEXT, "PROMISE a \nyes", "PROMISE  a\nyes", " PROMISE a\nyes", "PROMISE a\ryes"):
            self.assert_answers(desk, (text, NO))
        self.assert_answers(desk, ("LIST", "a b"))

    def test_desks_have_nothing_in_common(self):
        first, second = desk_with(TEXT, ("a", "yes")), Desk()
        self.assert_answers(second, ("LIST", ""), ("DEPTH", NO))
        self.assert_answers(first, ("LIST", "a"))

    def test_no_text_raises_an_error(self):
        desk = desk_with(TEXT, ("a", "say:b"))
        rng = chance(1)
        pieces = ["PROGRAM", "PROMISE", "DECIDE", "DEPTH", "CAN", "REPORT", "LIST", "a", "b", "1", "0", "1000", " ", "  ", "\n", "yes",
                  "not", "(", ")", "say:a", "GLOBALS", "PROC", "main", "p", "SAY", "CALL", "IF", "ELSE", "OR", "EITHER", "BACK", "TO",
                  "(not ", "\u00e9", "\0", "\ud800", ","]
        for _ in range(4000):
            text = "".join(rng.choice(pieces) for _ in range(rng.randint(0, 9)))
            for other in (text, "PROGRAM\n" + text, "PROMISE a\n" + text, "PROGRAM\nGLOBALS\nPROC main\n  " + text + "\n"):
                self.assertIsInstance(desk.answer(other), str)

    def test_great_texts(self):
        desk = desk_with(TEXT)
        many = 3000
        deep = "".join("  " * depth + "WHILE 1\n" for depth in range(1, 300)) + "  " * 300 + "PASS\n"
        main = "PROGRAM\nGLOBALS\nPROC main\n"
        self.assert_answers(
            desk, (main + "  BACK " + "(not " * many + "1" + ")" * many + "\n", "NO form main"),
            (main + "  BACK " + "(not " * many + "\n", "NO TEXT 2"), (main + deep, "NO form main"), (main + "  SAY a\n" * many, "NO points main"),
            ("PROMISE a\n" + "not " * many + "yes", "NO PROMISE 32"), ("PROMISE a\n" + "(" * many, "NO PROMISE 8"), ("CAN " + "a" * many, NO),
        )

    def test_answers_by_chance(self):
        for seed in range(60):
            rng = chance(900 + seed)
            told, promise = some_program(rng), some_promise(rng, 3)
            desk = desk_with(program_text(told))
            told = read_program(program_text(told))
            found = depth(told)
            self.assert_answers(desk, ("DEPTH", f"DEEP {found[1]}" if found[0] == "deep" else "ENDLESS"))
            for word in "abc":
                tale = can_say(told, word)
                self.assert_answers(desk, (f"CAN {word}", "NO" if tale is None else f"YES {length(*tale)}"))
            if not is_promise(promise):
                continue
            self.assert_answers(desk, ("PROMISE x\n" + promise_text(promise), "OK"))
            word, paper = decide(told, read_promise(promise_text(promise)))
            if word == "kept":
                self.assert_answers(desk, ("DECIDE x", "KEPT"), ("REPORT x 9", "KEPT"))
            else:
                sizes = [length(paper[0], items) for items in paper[1:]]
                self.assert_answers(desk, ("DECIDE x", "BROKEN {} {}".format(*sizes)), ("REPORT x 9", report(told, paper, 9)))

    def test_the_order_of_commands_does_not_matter(self):
        commands = (("DECIDE a", broken(CALLS, "say:b")), ("REPORT a 1", "0 1 quiet\n"), ("DEPTH", "DEEP 2"), ("CAN a", "YES 3"))
        for order in itertools.permutations(commands):
            self.assert_answers(desk_with(TEXT, ("a", "say:b")), *order)


if __name__ == "__main__":
    unittest.main()
