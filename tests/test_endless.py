import copy
import unittest

from calltowers.endings import endings, met
from calltowers.endless import endless
from calltowers.pushdowns import head_of, rules_of
from calltowers.rests import takes_rest
from calltowers.rounds import length, takes_round, written_out
from tests.chance import chance, some_program, some_pushdown
from tests.reference import (
    expanded, has_marked_circle, least_lengths, most_marks, plain_takes_rest, plain_takes_round,
)
from tests.samples import DEEP, ONE, program, var

HEAD = ("p", "a")


def marked(rules, word):
    """The rules of a program in which saying the word is marked."""
    return tuple(rule[:4] + (int(rule[4] == ("say", word)),) for rule in rules)


class EndlessTest(unittest.TestCase):
    def assert_marked(self, rules, head=HEAD):
        word, paper = endless(rules, head)
        self.assertEqual(word, "marked")
        self.assertIs(takes_round(rules, head, paper), True)
        return paper

    def assert_rest(self, rules, ranks, head=HEAD):
        word, paper = endless(rules, head)
        self.assertEqual(word, "rest")
        self.assertIs(takes_rest(rules, head, paper), True)
        self.assertEqual(paper, (tuple(endings(rules)), tuple(ranks)))

    def test_a_circle_of_one_head(self):
        rules = (("p", "a", "p", ("a",), 1),)
        self.assertEqual(self.assert_marked(rules), ((), (), (0,)))
        self.assert_rest((("p", "a", "p", ("a",), 0),), [(HEAD, 0)])

    def test_a_circle_behind_a_beginning(self):
        rules = (("p", "a", "q", ("b",), 0), ("q", "b", "r", ("b",), 0), ("r", "b", "q", ("b",), 1))
        self.assertEqual(self.assert_marked(rules), ((), (0, 1), (2, 1)))
        unmarked = tuple(rule[:4] + (0,) for rule in rules)
        self.assert_rest(unmarked, [(HEAD, 0), (("q", "b"), 0), (("r", "b"), 0)])

    def test_a_mark_only_before_the_play_gets_stuck(self):
        rules = (("p", "a", "p", ("a",), 0), ("p", "a", "q", ("a",), 1), ("q", "a", "r", ("a",), 1))
        self.assert_rest(rules, [(HEAD, 2), (("q", "a"), 1), (("r", "a"), 0)])

    def test_a_mark_only_before_the_play_ends(self):
        rules = (("p", "a", "p", ("a",), 0), ("p", "a", "q", ("a",), 1), ("q", "a", "q", (), 1))
        self.assert_rest(rules, [(HEAD, 1), (("q", "a"), 0)])

    def test_a_mark_within_a_call_that_ends(self):
        # The call is made again and again: the mark in it counts again and again.
        rules = (("p", "a", "q", ("b", "c"), 0), ("q", "b", "q", (), 1), ("q", "c", "p", ("a",), 0))
        self.assertEqual(self.assert_marked(rules), (((1,),), (), (0, -1, 2)))
        # It is made once only.
        once = (("p", "a", "q", ("b", "c"), 0), ("q", "b", "q", (), 1), ("q", "c", "q", ("c",), 0))
        self.assert_rest(once, [(HEAD, 1), (("q", "b"), 0), (("q", "c"), 0)])
        # It can be stayed in, but then there are no marks.
        stay = once + (("q", "b", "q", ("b",), 0),)
        self.assert_rest(stay, [(HEAD, 1), (("q", "b"), 0), (("q", "c"), 0)])

    def test_a_mark_only_behind_a_call(self):
        rules = (("p", "a", "q", ("b", "c"), 0), ("q", "b", "r", (), 0), ("r", "c", "p", ("a",), 1))
        parts, begin, again = self.assert_marked(rules)
        self.assertEqual((parts, sorted(begin + again)), (((1,),), [-1, -1, 0, 0, 2]))
        # The call never ends, or ends in another state.
        self.assert_rest(rules[:1] + rules[2:], [(HEAD, 0), (("q", "b"), 0)])
        other = (rules[0], ("q", "b", "u", (), 0), rules[2])
        self.assert_rest(other, [(HEAD, 0), (("q", "b"), 0), (("u", "c"), 0)])

    def test_a_call_that_ends_with_both_marks(self):
        rules = (
            ("p", "a", "q", ("b", "c"), 0), ("q", "b", "q", (), 0), ("q", "b", "q", ("d",), 0), ("q", "d", "q", (), 1),
            ("q", "c", "p", ("a",), 0),
        )
        parts, _, again = self.assert_marked(rules)
        self.assertEqual(parts, ((2, 3),))
        self.assertEqual(sorted(again), [-1, 0, 4])

    def test_climbing_for_ever(self):
        self.assertEqual(self.assert_marked((("p", "a", "p", ("a", "b"), 1),)), ((), (), (0,)))
        self.assert_rest((("p", "a", "p", ("a", "b"), 0),), [(HEAD, 0)])
        # Only the first step is marked, or one below which it climbs.
        rules = (("p", "a", "q", ("a", "b"), 1), ("q", "a", "q", ("a", "b"), 0))
        self.assert_rest(rules, [(HEAD, 1), (("q", "a"), 0)])
        # What lies below is never met again, so its marks do not count.
        rules = (("p", "a", "p", ("a", "b"), 0), ("p", "b", "p", ("b",), 1))
        self.assert_rest(rules, [(HEAD, 0)])

    def test_a_head_that_no_rule_speaks_of(self):
        rules = (("q", "b", "q", ("b",), 1), ("q", "a", "p", (), 1))
        self.assert_rest(rules, [(HEAD, 0)])
        self.assert_rest((), [(HEAD, 0)])
        self.assert_marked(rules, ("q", "b"))
        self.assert_rest(rules, [((0, (None,)), 0)], (0, (None,)))

    def test_all_endings_also_of_heads_that_are_not_met(self):
        rules = (("p", "a", "p", ("a",), 0), ("z", 3, "y", (), 1), ("z", 1, "z", (3,), 0))
        self.assert_rest(rules, [(HEAD, 0)])
        self.assertEqual(endless(rules, HEAD)[1][0], (("z", 1, "y", 1), ("z", 3, "y", 1)))

    def test_parts_have_the_fewest_rules(self):
        # A long way out and a short one, both with a mark; and a shorter one without.
        rules = (
            ("p", "a", "q", ("b", "c"), 0), ("q", "b", "q", ("d",), 0), ("q", "d", "q", ("e",), 0),
            ("q", "e", "q", (), 1), ("q", "b", "q", ("f",), 1), ("q", "f", "q", (), 0), ("q", "b", "q", (), 0),
            ("q", "c", "p", ("a",), 0),
        )
        parts, _, again = self.assert_marked(rules)
        self.assertEqual(parts, ((4, 5),))
        self.assertEqual(len(again), 3)

    def test_parts_count_the_rules_of_their_parts(self):
        # One item more, but fewer rules written out: the call of the first way is a long one.
        rules = (
            ("p", "a", "q", ("b", "c"), 0), ("q", "c", "p", ("a",), 1),
            ("q", "b", "q", ("x", "y"), 0), ("q", "y", "q", (), 0),
            ("q", "x", "q", ("x1",), 0), ("q", "x1", "q", ("x2",), 0), ("q", "x2", "q", ("x3",), 0),
            ("q", "x3", "q", (), 0),
            ("q", "b", "q", ("b1",), 0), ("q", "b1", "q", ("b2",), 0), ("q", "b2", "q", ("b3",), 0),
            ("q", "b3", "q", (), 0),
        )
        parts, _, _ = self.assert_marked(rules)
        self.assertEqual(parts, ((8, 9, 10, 11),))

    def test_every_rule_counts_once(self):
        # Two calls, one in the other, use five rules; a way without calls uses one less or one more.
        for size in (4, 6):
            rules = [
                ("p", "a", "q", ("b", "c"), 0), ("q", "c", "p", ("a",), 1), ("q", "b", "q", ("x", "y"), 0),
                ("q", "x", "q", ("z", "y"), 0), ("q", "z", "q", (), 0), ("q", "y", "q", (), 0),
                ("q", "b", "q", (1,), 0), ("q", size - 1, "q", (), 0),
            ]
            rules += [("q", k, "q", (k + 1,), 0) for k in range(1, size - 1)]
            parts, _, again = self.assert_marked(tuple(rules))
            self.assertEqual(length(parts, parts[-1]), min(size, 5))
            self.assert_fewest(rules, parts)

    def test_papers_that_are_far_too_great_to_be_written_out(self):
        # A tower of calls each of which makes the one below twice.
        deep = 80
        rules = [("p", "a", "p", ((deep, 0), "a"), 0)]
        for k in range(1, deep + 1):
            rules += [("p", (k, 0), "p", ((k - 1, 0), (k, 1)), 0), ("p", (k, 1), "p", ((k - 1, 0),), 0)]
        rules.append(("p", (0, 0), "p", (), 1))
        parts, begin, again = self.assert_marked(tuple(rules))
        self.assertEqual(length(parts, begin + again), 1 + sum(2 ** k for k in range(deep + 1)) + sum(
            2 ** k for k in range(deep)))
        self.assertEqual(len(written_out(parts, again, 1000)), 1000)

    def test_against_the_words_of_the_document(self):
        words = set()
        for seed in range(300):
            rules, head = some_pushdown(chance(seed))
            word, paper = endless(rules, head)
            words.add(word)
            self.assertEqual(word == "marked", has_marked_circle(rules, head), (rules, head))
            if word == "rest":
                self.assertTrue(plain_takes_rest(rules, head, paper))
                self.assert_rest(rules, most_marks(rules, head), head)
                continue
            self.assertIs(takes_round(rules, head, paper), True)
            self.assertTrue(plain_takes_round(rules, head, paper))
            self.assert_fewest(rules, paper[0])
        self.assertEqual(words, {"marked", "rest"})

    def assert_fewest(self, rules, parts):
        least = least_lengths(rules) if parts else {}
        for part in parts:
            numbers = expanded(parts, part)
            first, last = rules[numbers[0]], rules[numbers[-1]]
            mark = max(rules[number][4] for number in numbers)
            self.assertEqual(len(numbers), least[first[:2] + (last[2], mark)])

    def test_programs(self):
        for seed in range(60):
            told = some_program(chance(seed))
            rules = marked(rules_of(told), "a")
            word, paper = endless(rules, head_of(told))
            if word == "marked":
                self.assertIs(takes_round(rules, head_of(told), paper), True)
            else:
                self.assertIs(takes_rest(rules, head_of(told), paper), True)
                self.assertEqual([head for head, _ in paper[1]], met(rules, head_of(told)))

    def test_a_recursion_without_a_bound(self):
        rules = rules_of(DEEP)
        calls = tuple(rule[:4] + (int(rule[4] == ("call", "p")),) for rule in rules)
        self.assert_marked(calls, head_of(DEEP))
        # It is over when this is said, and so it is marked once at most.
        self.assertEqual(endless(marked(rules, "done"), head_of(DEEP))[0], "rest")

    def test_greater_programs(self):
        shared = ("a", "b", "c", "d")
        body = tuple(("pick", name) for name in shared + ("x", "y", "z")) + (
            ("if", var("a"), (("call", "p", (var("x"),), "b"),), ()),
            ("while", var("x"), (("pick", "x"), ("call", "q", (var("y"),), "z"))),
            ("say", "no"), ("set", "c", ("same", var("d"), var("z"))), ("back", ("same", var("y"), var("b"))),
        )
        told = program((("while", ONE, body),), {
            "p": (("x",), ("y", "z"), body), "q": (("x",), ("y", "z"), body[1:]),
        }, shared, ("x", "y", "z"))
        rules = rules_of(told)
        self.assertGreater(len(rules), 2500)
        paper = self.assert_marked(marked(rules, "no"), head_of(told))
        self.assertLess(length(paper[0], paper[1] + paper[2]), 100)
        word, paper = endless(marked(rules, "never"), head_of(told))
        self.assertEqual(word, "rest")
        self.assertIs(takes_rest(marked(rules, "never"), head_of(told), paper), True)
        self.assertEqual({number for _, number in paper[1]}, {0})

    def test_arguments_stay(self):
        rules = (("p", "a", "q", ("b", "c"), 0), ("q", "b", "q", (), 1), ("q", "c", "p", ("a",), 0))
        before = copy.deepcopy(rules)
        self.assertEqual(endless(rules, HEAD), endless(rules, HEAD))
        self.assertEqual(rules, before)


if __name__ == "__main__":
    unittest.main()
