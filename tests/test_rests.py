import copy
import unittest

from calltowers.endings import endings
from calltowers.endless import endless
from calltowers.rests import takes_rest
from tests.chance import chance, some_pushdown
from tests.reference import plain_takes_rest

HEAD = ("p", "a")


class RestTest(unittest.TestCase):
    def assert_takes(self, rules, ends, ranks, head=HEAD):
        self.assertIs(takes_rest(rules, head, (ends, ranks)), True)
        self.assertTrue(plain_takes_rest(rules, head, (ends, ranks)))

    def assert_refuses(self, rules, ends, ranks, head=HEAD):
        self.assertIs(takes_rest(rules, head, (ends, ranks)), False)
        self.assertFalse(plain_takes_rest(rules, head, (ends, ranks)))

    def test_no_rules(self):
        self.assert_takes((), (), ((HEAD, 0),))
        self.assert_takes((), (), ((HEAD, 5), (("q", 1), 0)))

    def test_no_rank_for_the_head(self):
        self.assert_refuses((), (), ())
        self.assert_refuses((), (), ((("q", "a"), 0), (("p", "b"), 0)))
        rules = (("p", "a", "q", ("b",), 0),)
        self.assert_refuses(rules, (), ((("q", "b"), 0),))
        self.assert_takes(rules, (), ((("q", "b"), 0),), ("q", "b"))

    def test_an_ending_without_symbols(self):
        for m in (0, 1):
            rules = (("p", "a", "q", (), m),)
            self.assert_takes(rules, (("p", "a", "q", m),), ((HEAD, 0),))
            self.assert_refuses(rules, (), ((HEAD, 0),))
            self.assert_refuses(rules, (("p", "a", "q", 1 - m), ("q", "a", "q", m), ("p", "a", "p", m)), ((HEAD, 0),))

    def test_one_symbol(self):
        for m in (0, 1):
            rules = (("p", "a", "q", ("b",), m), ("q", "b", "r", (), 0))
            last = ("q", "b", "r", 0)
            ranks = ((HEAD, m), (("q", "b"), 0))
            self.assert_takes(rules, (("p", "a", "r", m), last), ranks)
            # The ending is missing, or has another mark.
            self.assert_refuses(rules, (last,), ranks)
            self.assert_refuses(rules, (last, ("p", "a", "r", 1 - m)), ranks)
            # The rank is too small by one, or there is none.
            self.assert_takes(rules, (("p", "a", "r", m), last), ((HEAD, 4 + m), (("q", "b"), 4)))
            self.assert_refuses(rules, (("p", "a", "r", m), last), ((HEAD, 3 + m), (("q", "b"), 4)))
            self.assert_refuses(rules, (("p", "a", "r", m), last), ((HEAD, 4),))

    def test_one_symbol_with_several_endings(self):
        rules = (("p", "a", "q", ("b",), 0), ("q", "b", "r", (), 0), ("q", "b", "r", (), 1), ("q", "b", "p", (), 1))
        ends = tuple(endings(rules))
        ranks = ((HEAD, 0), (("q", "b"), 0))
        self.assertEqual(len(ends), 6)
        self.assert_takes(rules, ends, ranks)
        for at in range(6):
            self.assert_refuses(rules, ends[:at] + ends[at + 1:], ranks)

    def test_two_symbols(self):
        for m, f, g in ((0, 0, 0), (1, 0, 0), (0, 1, 0), (0, 0, 1), (1, 1, 1)):
            rules = (("p", "a", "q", ("b", "c"), m), ("q", "b", "r", (), f), ("r", "c", "u", (), g))
            ends = (("p", "a", "u", max(m, f, g)), ("q", "b", "r", f), ("r", "c", "u", g))
            most = max(m, f)
            self.assert_takes(rules, ends, ((HEAD, most), (("q", "b"), 0), (("r", "c"), 0)))
            self.assert_takes(rules, ends, ((HEAD, 7 + most), (("q", "b"), 7 + most - m), (("r", "c"), 7)))
            # An ending is missing, or has another mark.
            ranks = ((HEAD, most), (("q", "b"), 0), (("r", "c"), 0))
            for at in range(3):
                self.assert_refuses(rules, ends[:at] + ends[at + 1:], ranks)
                other = ends[at][:3] + (1 - ends[at][3],)
                self.assert_refuses(rules, ends[:at] + (other,) + ends[at + 1:], ranks)
            # A rank is too small by one, for the first symbol and behind the ending.
            self.assert_refuses(rules, ends, ((HEAD, 7 + m), (("q", "b"), 8), (("r", "c"), 0)))
            self.assert_refuses(rules, ends, ((HEAD, 7 + most), (("q", "b"), 0), (("r", "c"), 8)))
            # A head has no rank.
            self.assert_refuses(rules, ends, ((HEAD, 7), (("q", "b"), 0)))
            self.assert_refuses(rules, ends, ((HEAD, 7), (("r", "c"), 0)))

    def test_two_symbols_without_an_ending(self):
        rules = (("p", "a", "q", ("b", "c"), 1), ("q", "b", "q", ("b",), 0), ("r", "c", "r", ("c",), 1))
        self.assert_takes(rules, (), ((HEAD, 1), (("q", "b"), 0)))
        self.assert_refuses(rules, (), ((HEAD, 0), (("q", "b"), 0)))
        self.assert_refuses(rules, (), ((HEAD, 1), (("r", "c"), 0)))
        # An ending that does not come about asks for a rank all the same.
        more = (("q", "b", "q", 0), ("q", "b", "u", 0))
        self.assert_refuses(rules, more, ((HEAD, 1), (("q", "b"), 0)))
        self.assert_takes(rules, more, ((HEAD, 1), (("q", "b"), 0), (("q", "c"), 0), (("u", "c"), 0)))

    def test_more_than_what_is_needed(self):
        rules = (("p", "a", "q", ("b",), 0), ("q", "b", "r", (), 0))
        ends = (("p", "a", "r", 0), ("q", "b", "r", 0))
        ranks = ((HEAD, 0), (("q", "b"), 0))
        self.assert_takes(rules, ends, ranks)
        self.assert_takes(rules, ends + (("p", "a", "p", 1), ("z", "z", "z", 0)), ranks)
        self.assert_takes(rules, ends + ends, ranks)
        self.assert_takes(rules, ends[::-1], ranks[::-1])
        self.assert_takes(rules, ends, ranks + ((("z", 1), 9), (("p", "z"), 0)))
        self.assert_takes(rules, ends, ((HEAD, 9), (("q", "b"), 5)))
        # What is more must be right as well: this ending would be one of the first head, too.
        self.assert_refuses(rules, ends + (("q", "b", "p", 1),), ranks)
        # A rank more than needed makes its head's rules count.
        more = rules + (("z", "a", "q", (), 0),)
        self.assert_takes(more, ends, ranks)
        self.assert_refuses(more, ends, ranks + ((("z", "a"), 0),))
        self.assert_takes(more, ends + (("z", "a", "q", 0),), ranks + ((("z", "a"), 0),))

    def test_marked_circles_have_no_ranks(self):
        rules = (("p", "a", "q", ("a",), 1), ("q", "a", "p", ("a",), 0))
        for high in range(4):
            for low in range(4):
                self.assert_refuses(rules, (), ((HEAD, high), (("q", "a"), low)))
        unmarked = (("p", "a", "q", ("a",), 0), ("q", "a", "p", ("a",), 0))
        self.assert_takes(unmarked, (), ((HEAD, 2), (("q", "a"), 2)))
        self.assert_refuses(unmarked, (), ((HEAD, 2), (("q", "a"), 1)))

    def test_no_rest_papers(self):
        rules = (("p", "a", "p", ("b",), 0),)
        self.assert_takes(rules, (), ((HEAD, 0), (("p", "b"), 0)))
        self.assert_refuses(rules, (), ((HEAD, -1), (("p", "b"), -1)))
        self.assert_refuses(rules, (), ((HEAD, 0), (("p", "b"), -1)))
        self.assert_refuses(rules, (), ((HEAD, 0), (("p", "b"), 0), (("z", "z"), -1)))
        self.assert_refuses(rules, (), ((HEAD, 0), (("p", "b"), 0), (HEAD, 0)))
        self.assert_refuses(rules, (), ((HEAD, 0), (HEAD, 1), (("p", "b"), 0)))
        self.assert_refuses((), (), ((HEAD, 0), (HEAD, 0)))
        # The last part of an ending is a flag.
        self.assertIs(takes_rest(rules, HEAD, ((("z", "z", "z", 2),), ((HEAD, 0), (("p", "b"), 0)))), False)
        self.assertIs(takes_rest(rules, HEAD, ((("z", "z", "z", -1),), ((HEAD, 0), (("p", "b"), 0)))), False)

    def test_arguments_stay(self):
        rules = (("p", "a", "q", ("b",), 0), ("q", "b", "r", (), 0))
        paper = ((("p", "a", "r", 0), ("q", "b", "r", 0)), ((HEAD, 0), (("q", "b"), 0)))
        before = copy.deepcopy((rules, paper))
        self.assertIs(takes_rest(rules, HEAD, paper), True)
        self.assertEqual((rules, paper), before)

    def test_like_the_plain_judge(self):
        seen = set()
        for seed in range(300):
            rng = chance(seed)
            rules, head = some_pushdown(rng)
            word, paper = endless(rules, head)
            if word == "rest":
                for _ in range(6):
                    other = changed(rng, paper)
                    taken = takes_rest(rules, head, other)
                    self.assertEqual(taken, plain_takes_rest(rules, head, other), (rules, head, other))
                    seen.add(taken)
        self.assertEqual(seen, {True, False})


def changed(rng, paper):
    """A paper with an ending less or another one, or another rank."""
    ends, ranks = list(paper[0]), list(paper[1])
    at = rng.randrange(len(ranks))
    if ends and rng.random() < 0.5:
        p, s, q, f = ends.pop(rng.randrange(len(ends)))
        ends += rng.choice([[], [(p, s, q, 1 - f)], [(p, s, q, f), (p, s, p, 1)]])
    else:
        ranks[at] = (ranks[at][0], ranks[at][1] + rng.choice([-1, 1]))
    return (tuple(ends), tuple(ranks))


if __name__ == "__main__":
    unittest.main()
