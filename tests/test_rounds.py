import unittest

from calltowers.endless import endless
from calltowers.rounds import length, takes_round, written_out
from tests.chance import chance, some_pushdown
from tests.reference import expanded, plain_takes_round

RULES = (
    ("p", "a", "p", ("a", "b"), 0),     # 0: puts a on b
    ("p", "a", "q", (), 1),             # 1: ends, marked
    ("q", "b", "q", (), 0),             # 2: ends
    ("q", "b", "p", ("a",), 0),         # 3: goes on
    ("p", "a", "p", ("a",), 1),         # 4: stays, marked
    ("p", "a", "p", ("a",), 0),         # 5: stays
    ("p", "a", "r", ("a",), 1),         # 6: another state
    ("p", "a", "p", ("b",), 1),         # 7: another symbol
    ("p", "b", "p", ("b",), 1),         # 8: stays, marked
    ("p", "a", "p", ("a", "a"), 1),     # 9: puts a on a
    ("r", "a", "p", ("a",), 0),         # 10: back to the first state
)
HEAD = ("p", "a")

# A call that can double: (p, a) comes back as (p, ()).
DOUBLE = (
    ("p", "a", "p", (), 1),
    ("p", "a", "p", ("a", "a"), 0),
)


def doubling(deep):
    """Parts each of which has the one before it twice: the part k has 2 ** (k + 1) - 1 rules."""
    return ((0,),) + tuple((1, -1 - k, -1 - k) for k in range(deep))


class TakesTest(unittest.TestCase):
    def assert_takes(self, parts, begin, again, rules=RULES, head=HEAD):
        self.assertIs(takes_round(rules, head, (parts, begin, again)), True)
        self.assertTrue(plain_takes_round(rules, head, (parts, begin, again)))

    def assert_refuses(self, parts, begin, again, rules=RULES, head=HEAD):
        self.assertIs(takes_round(rules, head, (parts, begin, again)), False)
        self.assertFalse(plain_takes_round(rules, head, (parts, begin, again)))

    def test_without_parts(self):
        self.assert_takes((), (), (4,))
        self.assert_takes((), (0,), (4,))
        self.assert_takes((), (0, 5, 0), (5, 4, 5))
        self.assert_takes((), (7,), (8,))
        self.assert_takes((), (), (6, 10))
        self.assert_takes((), (6,), (10, 6))

    def test_climbing(self):
        self.assert_takes((), (), (0, 4))
        self.assert_takes((), (), (9,))
        self.assert_takes((), (0, 0), (4, 0, 0))

    def test_digging_in_what_it_put_there(self):
        self.assert_takes((), (), (0, 1, 3))
        self.assert_takes((), (0,), (0, 0, 1, 2, 3))

    def test_with_parts(self):
        self.assert_takes(((1,),), (), (0, -1, 3))
        self.assert_takes(((1,),), (0, -1, 3), (4,))
        self.assert_takes(((1,), (0, -1, 2)), (), (0, -2, 3))
        self.assert_takes(((1,), (0, -1, 2), (0, -2, 2)), (0, -3, 3), (0, -1, 3, 0, -3, 3))
        # A part that nobody has must be right too, and may be told twice.
        self.assert_takes(((0, 1, 2), (1,), (1,)), (), (4,))
        # A part that begins with another one.
        self.assert_takes(((1,), (-1,)), (), (0, -2, 3))

    def test_empty_parts_and_rounds(self):
        self.assert_refuses(((),), (), (4,))
        self.assert_refuses(((1,), ()), (), (4,))
        self.assert_refuses(((1,), ()), (), (0, -1, 3))
        self.assert_refuses((), (), ())
        self.assert_refuses((), (4,), ())

    def test_items_that_are_nothing(self):
        for item in (11, 100, -1, -2, -100):
            self.assert_refuses((), (item,), (4,))
            self.assert_refuses((), (), (item,))
            self.assert_refuses((), (), (4, item))
            self.assert_refuses((), (0, item), (4,))
            self.assert_refuses(((item,),), (), (4,))
            self.assert_refuses(((0, item, 2),), (), (4,))
        self.assert_refuses(((1,),), (), (0, -2, 3))
        self.assert_refuses(((1,),), (0, -2, 3), (4,))
        self.assert_takes((), (), (4,))

    def test_parts_that_have_themselves_or_later_ones(self):
        self.assertIs(takes_round(RULES, HEAD, (((-1,),), (), (4,))), False)
        self.assertIs(takes_round(RULES, HEAD, (((0, -1, 2),), (), (4,))), False)
        self.assertIs(takes_round(RULES, HEAD, (((0, -2, 2), (1,)), (), (4,))), False)
        self.assertIs(takes_round(RULES, HEAD, (((-2,), (-1,)), (), (4,))), False)
        self.assertIs(takes_round(RULES, HEAD, (((1,), (0, -2, 2)), (), (4,))), False)
        self.assert_takes(((1,), (0, -1, 2)), (), (4,))

    def test_parts_that_are_not_right(self):
        # Not to be played: a wrong symbol, a wrong state, a part that cannot stand there.
        self.assert_refuses(((0, 2),), (), (4,))
        self.assert_refuses(((0, 1, 8),), (), (4,))
        self.assert_refuses(((1,), (0, -1, -1)), (), (4,))
        # Not ended.
        self.assert_refuses(((0,),), (), (4,))
        self.assert_refuses(((4,),), (), (4,))
        self.assert_refuses(((0, 1),), (), (4,))
        self.assert_refuses(((1,), (0, -1)), (), (4,))
        # The stack is empty before the end.
        self.assert_refuses(((1, 2),), (), (4,))
        self.assert_refuses(((0, 1, 2, 2),), (), (4,))
        self.assert_refuses(((1,), (-1, 2)), (), (4,))
        self.assert_refuses(((0,), (0, 0)), (), (0,), DOUBLE)
        self.assert_refuses(((0,), (-1, -1)), (), (1, -2), DOUBLE)
        self.assert_takes(((0,), (1, -1, -1)), (), (1, -2), DOUBLE)

    def test_beginnings(self):
        self.assert_refuses((), (2,), (4,))
        self.assert_refuses((), (4, 8), (4,))
        self.assert_refuses((), (), (8,))
        self.assert_refuses(((1,),), (0, -1, -1), (4,))
        self.assert_refuses((), (4,), (4,), RULES, ("p", "b"))
        self.assert_refuses((), (4,), (4,), RULES, ("p", "z"))
        self.assert_takes((), (8,), (8,), RULES, ("p", "b"))
        # The stack is empty behind the beginning, or before its end.
        self.assert_refuses((), (1,), (4,))
        self.assert_refuses(((1,),), (-1,), (4,))
        self.assert_refuses((), (0, 1, 2), (4,))
        self.assert_refuses((), (0, 1, 2, 4), (4,))
        self.assert_refuses((), (0,), (1,), DOUBLE)
        self.assert_takes((), (0, 1, 3), (4,))

    def test_rounds_that_do_not_come_back(self):
        self.assert_refuses((), (), (6,))
        self.assert_refuses((), (), (7,))
        self.assert_refuses((), (), (1,))
        self.assert_refuses(((1,),), (), (-1,))
        self.assert_refuses((), (), (4, 8))
        self.assert_refuses((), (), (0, 1, 2))
        self.assert_refuses((), (), (0, 1))
        self.assert_refuses((), (0,), (4, 2))

    def test_rounds_that_dig_below_their_top_symbol(self):
        # With what is below they could be played, and they come back to the same state and symbol.
        self.assert_refuses((), (0,), (1, 3))
        self.assert_refuses(((1,),), (0,), (-1, 3))
        self.assert_refuses((), (0, 0), (1, 2, 3))
        self.assert_refuses((), (1, 1), (0, 1), DOUBLE)
        self.assert_takes((), (1, 1), (1, 0), DOUBLE)

    def test_rounds_without_a_mark(self):
        self.assert_refuses((), (), (5,))
        self.assert_refuses((), (4,), (5, 5))
        self.assert_refuses((), (), (0,))
        # The mark may stand in a part only, however deep.
        unmarked = RULES[:1] + (("p", "a", "q", (), 0),) + RULES[2:]
        self.assert_takes(((1,),), (), (0, -1, 3))
        self.assert_refuses(((1,),), (), (0, -1, 3), unmarked)
        self.assert_takes(((1,), (0, -1, 2), (0, -2, 2)), (), (0, -3, 3))
        self.assert_refuses(((1,), (0, -1, 2), (0, -2, 2)), (), (0, -3, 3), unmarked)
        self.assert_takes(((1,),), (), (4, 0, -1, 3), unmarked)

    def test_far_too_great_to_be_written_out(self):
        for deep in (60, 500):
            parts = doubling(deep)
            self.assertIs(takes_round(DOUBLE, HEAD, (parts, (1,), (1, -1 - deep))), True)
            self.assertIs(takes_round(DOUBLE, HEAD, (parts, (1, -1 - deep), (1,))), False)
            self.assertIs(takes_round(DOUBLE, HEAD, (parts, (1, -1 - deep), (1, -deep))), True)
            self.assertIs(takes_round(DOUBLE, HEAD, (parts, (-1 - deep,), (1, -1))), False)
            self.assertIs(takes_round(DOUBLE, HEAD, (parts, (1, 1), (-1 - deep, 1))), False)
            self.assertIs(takes_round(DOUBLE, HEAD, (parts + ((1, -1 - deep),), (), (1, -1))), False)
            unmarked = tuple(rule[:4] + (0,) for rule in DOUBLE)
            self.assertIs(takes_round(unmarked, HEAD, (parts, (1,), (1, -1 - deep))), False)

    def test_deep_chains_of_parts(self):
        parts = ((0,),) + tuple((1, -1 - k, 0) for k in range(5000))
        self.assertIs(takes_round(DOUBLE, HEAD, (parts, (), (1, -5001))), True)
        self.assertEqual(length(parts, (1, -5001)), 10002)
        self.assertEqual(written_out(parts, (-5001,), 5002), [1] * 5000 + [0, 0])

    def test_like_the_plain_judge(self):
        seen = set()
        for seed in range(400):
            rng = chance(seed)
            rules, head = some_pushdown(rng)
            word, paper = endless(rules, head)
            if word == "marked" and length(paper[0], paper[1] + paper[2]) < 1000:
                for _ in range(8):
                    other = changed(rng, rules, paper)
                    taken = takes_round(rules, head, other)
                    self.assertEqual(taken, plain_takes_round(rules, head, other), (rules, head, other))
                    seen.add(taken)
        self.assertEqual(seen, {True, False})


def changed(rng, rules, paper):
    """A paper with one item more, one less, or another one."""
    rows = [list(row) for row in paper[0] + paper[1:]]
    row = rng.choice(rows)
    at = rng.randint(0, len(row))
    row[at:at + rng.randint(0, 1)] = [rng.randint(-len(rows), len(rules))][:rng.randint(0, 1)]
    rows = [tuple(row) for row in rows]
    return (tuple(rows[:-2]), rows[-2], rows[-1])


class WrittenOutTest(unittest.TestCase):
    PARTS = ((7,), (3, -1, 4), (-2, -2, 5))

    def test_none_fewer_and_more(self):
        whole = [9, 3, 7, 4, 3, 7, 4, 5, 7, 2]
        items = (9, -3, -1, 2)
        self.assertEqual(expanded(self.PARTS, items), whole)
        for n in range(15):
            self.assertEqual(written_out(self.PARTS, items, n), whole[:n])
        self.assertEqual(length(self.PARTS, items), 10)

    def test_without_parts(self):
        self.assertEqual(written_out((), (3, 1, 2), 2), [3, 1])
        self.assertEqual(written_out((), (), 5), [])
        self.assertEqual(written_out((), (4,), 0), [])
        self.assertEqual(length((), ()), 0)
        self.assertEqual(length((), (3, 1, 2)), 3)

    def test_parts_that_nobody_has(self):
        self.assertEqual(written_out(self.PARTS, (0,), 9), [0])
        self.assertEqual(length(self.PARTS, (0,)), 1)
        self.assertEqual(length(self.PARTS, ()), 0)

    def test_great_papers(self):
        for deep in (60, 64, 300):
            parts = doubling(deep)
            self.assertEqual(length(parts, (-1 - deep,)), 2 ** (deep + 1) - 1)
            self.assertEqual(length(parts, (1, -1 - deep, -1 - deep, 0)), 2 ** (deep + 2))
            self.assertEqual(written_out(parts, (5, -1 - deep), 0), [])
            self.assertEqual(written_out(parts, (5, -1 - deep), deep + 4), [5] + [1] * deep + [0, 0, 1])
            self.assertEqual(len(written_out(parts, (-1 - deep,), 3000)), 3000)

    def test_great_papers_begin_as_they_should(self):
        parts = doubling(62)
        # Behind the first 62 - 10 rules the part 10 stands twice, written out.
        small = expanded(parts, (-11,))
        self.assertEqual(written_out(parts, (-63,), 52 + 2 * len(small)), [1] * 52 + small + small)

    def test_empty_parts_are_nothing(self):
        parts = ((),) + tuple((-1 - k, -1 - k) for k in range(70)) + ((-71, 4, -70),)
        self.assertEqual(written_out(parts, (-71, 3, -72), 5), [3, 4])
        self.assertEqual(length(parts, (-71, 3, -72)), 2)

    def test_lists_are_new_and_arguments_stay(self):
        written_out((), (1, 2), 2).clear()
        self.assertEqual(written_out((), (1, 2), 2), [1, 2])
        self.assertEqual(self.PARTS, ((7,), (3, -1, 4), (-2, -2, 5)))


if __name__ == "__main__":
    unittest.main()
