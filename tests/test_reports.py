import copy
import unittest

from calltowers.decide import decide, depth
from calltowers.promisetext import read_promise
from calltowers.pushdowns import head_of, rules_of
from calltowers.reports import report
from calltowers.rounds import written_out
from tests.chance import chance, some_program, some_promise
from calltowers.promises import is_promise
from tests.samples import DEEP, ONE, ZERO, program, var


def lines(*rows):
    """The text of these lines: each one ends with a newline, the last one too."""
    return "".join(row + "\n" for row in rows)


def rows_of(text):
    """The lines of a report, which is not empty, without their newlines."""
    assert text.endswith("\n")
    return text[:-1].split("\n")


def call(proc):
    return ("call", proc, (), "")


# It says a, and then calls p, which says b, again and again.
TALKS = program((("say", "a"), ("while", ONE, (call("p"),))), {"p": ((), (), (("say", "b"), ("back", ONE)))})


def number_of(told, proc, point):
    """The index of the only rule from this point of a procedure."""
    found = [number for number, rule in enumerate(rules_of(told)) if rule[1][:2] == (proc, point)]
    assert len(found) == 1
    return found[0]


def talks_run():
    say, asks, calls, takes = [number_of(TALKS, "main", point) for point in (0, 1, 2, -3)]
    says, back = [number_of(TALKS, "p", point) for point in (0, 1)]
    return (((says, back),), (say,), (asks, calls, -1, takes))


class ReportTest(unittest.TestCase):
    def test_no_step(self):
        self.assertEqual(report(TALKS, talks_run(), 0), "")
        self.assertEqual(report(program(), ((), (0,), ()), 0), "")

    def test_each_line_ends_with_a_newline(self):
        run = talks_run()
        self.assertEqual(report(TALKS, run, 1), "0 1 say a\n")
        self.assertEqual(report(TALKS, run, 3), "0 1 say a\n1 1 quiet\n2 2 call p\n")
        for n in range(1, 20):
            self.assertEqual(report(TALKS, run, n).count("\n"), n)
        # Also where the run ends before the number of steps.
        self.assertEqual(report(program((("say", "a"),)), ((), (0, 1), ()), 9), "0 1 say a\n1 0 back main\n")

    def test_marks_of_each_kind_and_the_depth_behind_each_step(self):
        rows = ["0 1 say a", "1 1 quiet", "2 2 call p", "3 2 say b", "4 1 back p", "5 1 quiet", "6 1 quiet", "7 2 call p",
                "8 2 say b", "9 1 back p", "10 1 quiet", "11 1 quiet", "12 2 call p"]
        for n in range(len(rows) + 1):
            self.assertEqual(report(TALKS, talks_run(), n), lines(*rows[:n]))

    def test_far_into_the_round(self):
        rows = rows_of(report(TALKS, talks_run(), 1000))
        self.assertEqual(len(rows), 1000)
        self.assertEqual(rows[996:], ["996 1 quiet", "997 2 call p", "998 2 say b", "999 1 back p"])
        self.assertEqual([row.split(" ")[0] for row in rows], [str(at) for at in range(1000)])

    def test_no_blank_at_the_end_of_a_line(self):
        for row in rows_of(report(TALKS, talks_run(), 50)):
            self.assertEqual(row, row.strip())
            self.assertNotEqual(row, "")
            self.assertNotIn("  ", row)

    def test_a_run_that_ends(self):
        told = program((("say", "a"), call("p")), {"p": ((), (), ())})
        rows = ["0 1 say a", "1 2 call p", "2 1 back p", "3 1 quiet", "4 0 back main"]
        order = [("main", 0), ("main", 1), ("p", 0), ("main", -2), ("main", 2)]
        numbers = tuple(number_of(told, *place) for place in order)
        for n in range(9):
            self.assertEqual(report(told, ((), numbers, ()), n), lines(*rows[:n]))
            # Behind the end nothing is played any more.
            self.assertEqual(report(told, ((), numbers, numbers[:1]), n), lines(*rows[:n]))
            self.assertEqual(report(told, (((numbers[2],),), numbers[:2] + (-1,) + numbers[3:], ()), n), lines(*rows[:n]))

    def test_a_play_that_stops_ahead_of_the_end(self):
        say, asks = talks_run()[1][0], talks_run()[2][0]
        self.assertEqual(report(TALKS, ((), (say, asks), ()), 7), lines("0 1 say a", "1 1 quiet"))

    def test_choices_are_those_of_the_rules(self):
        told = program((("while", ONE, (("either", (("say", "a"),), (("pick", "g"), ("if", var("g"), (("say", "b"),), ()))),)),),
                       None, ("g",))
        rules = rules_of(told)
        state, symbol = head_of(told)
        numbers = []
        # Always the second choice, if there is one.
        for _ in range(6):
            number = [at for at, rule in enumerate(rules) if rule[:2] == (state, symbol)][-1]
            numbers.append(number)
            state, symbol = rules[number][2], rules[number][3][0]
        self.assertEqual(report(told, ((), tuple(numbers), ()), 9),
                         lines("0 1 quiet", "1 1 quiet", "2 1 quiet", "3 1 quiet", "4 1 say b", "5 1 quiet"))

    def test_a_stack_that_grows(self):
        told = program((call("main"),))
        self.assertEqual(report(told, ((), (), (0,)), 3), lines("0 2 call main", "1 3 call main", "2 4 call main"))
        self.assertEqual(rows_of(report(told, ((), (), (0,)), 1000))[-1], "999 1001 call main")

    def test_parts_in_parts_that_are_far_too_long(self):
        told = program((("while", ONE, (call("p"),)),), {
            "p": ((), (), (("say", "a"),)),
        })
        asks, calls, takes = [number_of(told, "main", point) for point in (0, 1, -2)]
        says, back = [number_of(told, "p", point) for point in (0, 1)]
        turn = (asks, calls, says, back, takes)
        rows = lines("0 1 quiet", "1 2 call p", "2 2 say a", "3 1 back p", "4 1 quiet", "5 1 quiet", "6 2 call p")
        # The last part has more than 2 ** 200 rules.
        loops = (turn,) + tuple((-1 - at, -1 - at) for at in range(200))
        for run in (((), (), turn), (loops, (-201,), turn), (loops, (), (-201,)), (loops, turn, (-150,))):
            self.assertEqual(report(told, run, 7), rows)
            self.assertEqual(len(rows_of(report(told, run, 500))), 500)

    def test_runs_that_break_promises(self):
        reported = 0
        for seed in range(60):
            rng = chance(700 + seed)
            told, promise = some_program(rng), some_promise(rng, 3)
            word, run = decide(told, promise) if is_promise(promise) else ("kept", None)
            if word == "broken":
                reported += 1
                self.assert_like_the_rules(told, run, 40)
        self.assertGreater(reported, 10)

    def assert_like_the_rules(self, told, run, n):
        parts, begin, again = run
        rules = rules_of(told)
        numbers = written_out(parts, begin + again * n, n)
        deep, rows = 1, []
        for at, number in enumerate(numbers):
            deep += len(rules[number][3]) - 1
            kind, name = rules[number][4]
            rows.append(f"{at} {deep} {kind} {name}".strip())
        self.assertEqual(report(told, run, n), lines(*rows))

    def test_arguments_stay(self):
        run = decide(DEEP, read_promise("(yes until say)"))[1]
        told, before = copy.deepcopy(DEEP), copy.deepcopy(run)
        self.assertEqual(report(told, run, 30), report(told, run, 30))
        self.assertEqual((told, run), (DEEP, before))
        self.assertEqual(report(DEEP, depth(DEEP)[1], 2), lines("0 2 call p", "1 2 quiet"))

    def test_names_like_kinds(self):
        told = program((("say", "quiet"), ("call", "say", (), ""), ("if", ZERO, (), ())), {"say": ((), (), ())})
        numbers = tuple(number_of(told, *place) for place in (("main", 0), ("main", 1), ("say", 0)))
        self.assertEqual(report(told, ((), numbers, ()), 3), lines("0 1 say quiet", "1 2 call say", "2 1 back say"))


if __name__ == "__main__":
    unittest.main()
