import copy
import unittest

from calltowers.promises import holds, is_promise
from calltowers.pushdowns import rules_of
from tests.chance import chance, some_program, some_promise, some_rounds
from tests.reference import plain_holds

YES = ("yes",)
CALL = ("at", "call", "")
BACK = ("at", "back", "")
SAY = ("at", "say", "")
QUIET = ("at", "quiet", "")


def nested(word, depth):
    """A promise with one part in each one, nested so deep."""
    promise = YES
    for _ in range(depth - 1):
        promise = (word, promise)
    return promise


def joined(parts):
    """The promise that all of these are true, nested little deeper than they are."""
    while len(parts) > 1:
        parts = [("and", *parts[at:at + 2]) if at + 1 < len(parts) else parts[at] for at in range(0, len(parts), 2)]
    return parts[0]


class FormTest(unittest.TestCase):
    def assert_right(self, *things):
        for thing in things:
            self.assertIs(is_promise(thing), True, thing)
            self.assertIs(is_promise(("not", thing)), True, thing)

    def assert_wrong(self, *things):
        for thing in things:
            self.assertIs(is_promise(thing), False, thing)
            self.assertIs(is_promise(("and", YES, thing)), False, thing)

    def test_each_form(self):
        self.assert_right(YES, ("not", YES), ("and", YES, CALL), ("or", BACK, YES), ("next", YES), ("until", SAY, YES),
                          ("over", QUIET), ("across", YES, CALL))
        for kind in ("call", "back", "say", "quiet"):
            self.assert_right(("at", kind, ""), ("at", kind, "p"), ("at", kind, "eightabc"), ("at", kind, "yes"))

    def test_another_number_of_parts(self):
        self.assert_wrong((), ("yes", YES), ("yes", ""), ("at",), ("at", "call"), ("at", "call", "", ""), ("at", "call", "p", "q"))
        for word in ("not", "next", "over"):
            self.assert_wrong((word,), (word, YES, YES))
        for word in ("and", "or", "until", "across"):
            self.assert_wrong((word,), (word, YES), (word, YES, YES, YES))

    def test_a_wrong_first_word(self):
        self.assert_wrong(("no",), ("",), ("Yes",), ("yes ",), (YES,), ((),), ("call", "p"), ("release", YES, YES), ("same", YES, YES),
                          (("not", YES),), (("at", "call", ""), "call", ""), ("true",), ("at:", "call", ""))

    def test_parts_that_are_no_promises(self):
        for part in ("yes", "", "call", (), ("no",), ("yes", "yes")):
            for word in ("not", "next", "over"):
                self.assert_wrong((word, part))
            for word in ("and", "or", "until", "across"):
                self.assert_wrong((word, part, YES), (word, YES, part))

    def test_a_wrong_kind(self):
        for kind in ("", "plain", "Call", "pick", "set", "call ", "p", (), ("call",), YES):
            self.assert_wrong(("at", kind, ""), ("at", kind, "p"))

    def test_names_that_are_none(self):
        for name in ("and", "or", "not", "same", "ninechars", "P", "p1", " ", "a b", "\u00e9", (), ("p",), YES):
            for kind in ("call", "back", "say", "quiet"):
                self.assert_wrong(("at", kind, name))

    def test_nested_8_and_9_deep(self):
        for deep, expected in ((1, True), (8, True), (9, False), (2000, False)):
            self.assertIs(is_promise(nested("not", deep)), expected)
        for word in ("next", "over"):
            for deep in (8, 9):
                promise = nested("not", deep - 1)
                self.assertIs(is_promise((word, promise)), deep == 8)
        for word in ("and", "or", "until", "across"):
            for deep in (7, 8):
                for side in (0, 1):
                    parts = [YES, YES]
                    parts[side] = nested("not", deep)
                    self.assertIs(is_promise((word, *parts)), deep == 7)

    def test_six_and_seven_parts_that_look_ahead(self):
        parts = [("next", YES), ("until", YES, CALL), ("over", YES), ("across", YES, CALL), ("next", CALL), ("over", CALL),
                 ("until", CALL, YES)]
        self.assertIs(is_promise(joined(parts[:6])), True)
        self.assertIs(is_promise(joined(parts[1:])), True)
        self.assertIs(is_promise(joined(parts)), False)
        # Equal parts count once, wherever they stand.
        self.assertIs(is_promise(joined(parts[:6] * 4)), True)
        self.assertIs(is_promise(joined(parts * 2)), False)
        # Parts within parts count, and so does the promise itself.
        self.assertIs(is_promise(nested("next", 7)), True)
        self.assertIs(is_promise(nested("over", 8)), False)
        self.assertIs(is_promise(("across", joined(parts[:6]), YES)), False)
        self.assertIs(is_promise(("across", joined(parts[:5]), YES)), True)
        self.assertIs(is_promise(("and", nested("next", 7), ("next", ("next", YES)))), True)
        self.assertIs(is_promise(("and", nested("next", 7), ("next", ("not", YES)))), False)

    def test_arguments_stay(self):
        thing = ("until", YES, ("over", CALL))
        before = copy.deepcopy(thing)
        is_promise(thing)
        self.assertEqual(thing, before)


# The steps of a run in short: c and C call p and q, b and B come back from them, s says hi, S says ho, . is quiet.
MARKS = {
    "c": ("call", "p"), "C": ("call", "q"), "b": ("back", "p"), "B": ("back", "q"), "s": ("say", "hi"),
    "S": ("say", "ho"), ".": ("quiet", ""),
}


def marks(text):
    return tuple(MARKS[sign] for sign in text)


class HoldsTest(unittest.TestCase):
    def assert_truths(self, promise, begin, again, expected):
        """Where it is true is told by 1, where it is not by 0."""
        for i, flag in enumerate(expected):
            truth = holds(promise, marks(begin), marks(again), i)
            self.assertIs(truth, flag == "1", (promise, begin, again, i))
            self.assertEqual(truth, plain_holds(promise, marks(begin), marks(again), i))
        self.assertEqual(len(begin + again), len(expected))

    def test_yes_and_at(self):
        self.assert_truths(YES, "", ".", "1")
        self.assert_truths(YES, "cb", ".s", "1111")
        self.assert_truths(("at", "call", ""), "cCb", "s.c", "110001")
        self.assert_truths(("at", "call", "p"), "cCb", "s.c", "100001")
        self.assert_truths(("at", "back", ""), "cCBb", ".", "00110")
        self.assert_truths(("at", "back", "q"), "cCBb", ".", "00100")
        self.assert_truths(("at", "say", ""), "sS", ".cs", "11001")
        self.assert_truths(("at", "say", "ho"), "sS", ".cs", "01000")
        self.assert_truths(("at", "quiet", ""), ".s", "s.", "1001")
        self.assert_truths(("at", "quiet", "hi"), ".s", "s.", "0000")

    def test_not_and_or(self):
        self.assert_truths(("not", SAY), "s.", "cs", "0110")
        self.assert_truths(("and", SAY, ("not", ("at", "say", "ho"))), "s.", "Ss", "1001")
        self.assert_truths(("or", CALL, ("at", "say", "ho")), "s.", "Sc", "0011")

    def test_next(self):
        self.assert_truths(("next", SAY), "", "s", "1")
        self.assert_truths(("next", SAY), "s.", "cs", "0010")
        # Behind the last step of the round comes its first one.
        self.assert_truths(("next", SAY), "..", "sc", "0101")
        self.assert_truths(("next", ("next", SAY)), "..", "sc.", "10010")
        # Also from a call, and to a back.
        self.assert_truths(("next", BACK), "cb", "cb", "1010")

    def test_until(self):
        self.assert_truths(("until", QUIET, SAY), "..", ".s", "1111")
        self.assert_truths(("until", QUIET, SAY), ".c.", "s.", "00111")
        # It never comes true, though the first part is true for ever.
        self.assert_truths(("until", QUIET, SAY), "s.", ".", "100")
        self.assert_truths(("until", YES, ("at", "say", "ho")), "S", "s.", "100")
        # It comes true only in the next repetition of the round.
        self.assert_truths(("until", ("not", CALL), SAY), "", "s..", "111")
        self.assert_truths(("until", ("not", CALL), SAY), "", "sc.", "101")
        # It looks into calls.
        self.assert_truths(("until", YES, SAY), "csb", ".", "1100")
        self.assert_truths(("until", ("not", YES), SAY), "s", ".s", "101")

    def test_over_of_matched_calls(self):
        self.assert_truths(("over", ("at", "back", "p")), "cb", ".", "100")
        self.assert_truths(("over", ("at", "back", "p")), "cCBb", ".", "10000")
        self.assert_truths(("over", ("at", "back", "q")), "cCBb", ".", "01000")
        self.assert_truths(("over", ("at", "back", "q")), "c.CBcb.b", "CB.", "00100000100")
        self.assert_truths(("over", ("next", SAY)), "cbs", ".", "1000")
        self.assert_truths(("over", ("next", SAY)), "", "cb", "00")
        self.assert_truths(("over", ("next", ("next", SAY))), "", "s.cb", "0100")

    def test_over_of_calls_that_come_back_never(self):
        self.assert_truths(("over", YES), "c", "s", "01")
        self.assert_truths(("over", YES), "cCBs", "s", "01111")
        self.assert_truths(("over", YES), "", "c", "0")
        self.assert_truths(("over", YES), "", "cCB", "011")
        self.assert_truths(("over", YES), "c", "C.cb", "00111")
        self.assert_truths(("not", ("over", YES)), "c", "C.cb", "11000")

    def test_over_of_other_steps(self):
        # There is none if the next step is a back.
        self.assert_truths(("over", YES), "c.b", ".", "1011")
        self.assert_truths(("over", YES), "cCBb", "s", "11011")
        self.assert_truths(("over", YES), "", "c.sb.", "11011")
        self.assert_truths(("over", SAY), "c.sb", "s.", "010101")
        # From a back it is the next step.
        self.assert_truths(("over", SAY), "cbs", ".", "0100")
        self.assert_truths(("over", CALL), "cb", "cb.", "01001")

    def test_across(self):
        # Past the call: what is said in it does not count.
        self.assert_truths(("across", YES, SAY), "csb.", ".", "01000")
        self.assert_truths(("across", YES, SAY), "c.b.s", ".", "101110")
        self.assert_truths(("across", QUIET, SAY), "c.b.s", ".", "000110")
        self.assert_truths(("across", ("or", QUIET, CALL), SAY), "c.b.s", ".", "000110")
        self.assert_truths(("across", ("not", SAY), ("at", "say", "ho")), "cs.b.S", ".", "1001110")

    def test_across_through_many_calls(self):
        for many in (1, 5, 40):
            begin = "cs.Csb.b" * many + "cCBb" * many + "S"
            self.assertIs(holds(("across", YES, ("at", "say", "ho")), marks("cCBb" * many + "S"), marks("."), 0), True)
            self.assertIs(holds(("across", ("not", SAY), ("at", "say", "ho")), marks(begin), marks("."), 0), True)
            self.assertIs(holds(("until", ("not", SAY), ("at", "say", "ho")), marks(begin), marks("."), 0), False)

    def test_across_that_comes_to_an_end(self):
        # The last step ahead of a back, and a call that comes back never.
        self.assert_truths(("across", YES, SAY), "c..bs", ".", "100110")
        self.assert_truths(("across", YES, SAY), ".cs", "s.", "00111")
        self.assert_truths(("across", YES, CALL), ".cs", "s.", "11000")
        self.assert_truths(("across", YES, SAY), "..", "c", "000")
        self.assert_truths(("across", YES, SAY), "", "c.s", "011")
        self.assert_truths(("across", YES, SAY), "", "sc.", "101")

    def test_across_that_never_comes_true(self):
        self.assert_truths(("across", YES, SAY), "", ".", "0")
        self.assert_truths(("across", YES, SAY), "s", "cb.", "1000")
        self.assert_truths(("across", YES, SAY), "", "csb.", "0100")

    def test_across_in_a_later_repetition(self):
        self.assert_truths(("across", YES, SAY), "", "scb", "111")
        self.assert_truths(("across", YES, ("and", SAY, ("next", CALL))), "", "s.scb", "11111")
        self.assert_truths(("across", ("not", BACK), SAY), "", "scb", "100")
        self.assert_truths(("across", YES, BACK), "", "..cb", "1111")

    def test_matching_stays_in_its_repetition(self):
        # The call at the end of the round is matched by no back of the next repetition: here there is none.
        self.assert_truths(("over", YES), "c", "cb.c", "01110")
        self.assert_truths(("over", BACK), "cc", "cbc", "00100")

    def test_parts_in_parts(self):
        always = ("not", ("until", YES, ("not", ("or", ("not", CALL), ("over", BACK)))))
        self.assert_truths(always, "ccb", ".cb", "011111")
        self.assert_truths(always, "cb", "cb.c", "000000")
        often = ("not", ("until", YES, ("not", ("until", YES, SAY))))
        self.assert_truths(often, "c", ".s", "111")
        self.assert_truths(often, "s", ".c", "000")

    def test_like_the_plain_way(self):
        many = 0
        for seed in range(60):
            rng = chance(seed)
            told = some_program(rng)
            rules = rules_of(told)
            for begin, again in some_rounds(rng, told, 4, 16)[:6]:
                begin, again = [tuple(rules[number][4] for number in row) for row in (begin, again)]
                for _ in range(4):
                    promise = some_promise(rng, 4)
                    for i in range(len(begin + again)):
                        many += 1
                        self.assertIs(holds(promise, begin, again, i), plain_holds(promise, begin, again, i))
        self.assertGreater(many, 1000)

    def test_arguments_stay(self):
        begin, again, promise = marks("c.b"), marks("cb."), ("across", YES, ("over", ("until", SAY, CALL)))
        before = copy.deepcopy((begin, again, promise))
        for i in range(6):
            holds(promise, begin, again, i)
        self.assertEqual((begin, again, promise), before)

    def test_long_runs(self):
        begin, again = marks("c" * 20000 + "b" * 20000), marks(".." * 5000)
        self.assertIs(holds(("over", ("at", "back", "p")), begin, again, 0), True)
        self.assertIs(holds(("across", YES, SAY), begin, again, 0), False)
        self.assertIs(holds(("until", ("not", SAY), QUIET), begin, again, 0), True)


if __name__ == "__main__":
    unittest.main()
