import copy
import unittest

from calltowers.endless import endless
from calltowers.product import product
from calltowers.promises import holds, is_promise
from calltowers.promisetext import read_promise
from calltowers.pushdowns import head_of, play, rules_of
from tests.chance import chance, some_program, some_promise, some_rounds
from tests.samples import ALL_FORMS, DEEP, ONE, program, var

# Calls of p come back, one of q never does.
LOOPS = program((("while", ONE, (("either", (("call", "p", (), ""),), (("call", "q", (), ""),)), ("say", "a"))),), {
    "p": ((), (), (("either", (("say", "b"),), (("call", "p", (), ""),)),)),
    "q": ((), (), (("while", ONE, (("say", "c"), ("call", "p", (), ""))),)),
})
TEXTS = (
    "yes", "not yes", "call", "next quiet", "(yes until say:b)", "not (yes until say:c)", "over yes", "not over over say",
    "(yes across say:a)", "not (yes until not (not call:p or over yes))", "not (yes until not (yes until back:p))",
    "not (yes across not (yes across say:a))", "not (yes until (call:q and (yes across back)))",
    "(not (yes until call:q) or (yes until (call:q and not over yes)))", "not (yes until (say:a and next (yes across back:p)))",
)


def is_marked(table, begin, again):
    """Whether the product has a marked endless play that is made of these rules of the program."""
    rules, origins, head = table
    numbers = begin + again
    made = {}
    for rule, origin in zip(rules, origins):
        made.setdefault(origin, []).append(rule)
    along = []
    for at, number in enumerate(numbers):
        behind = at + 1 if at + 1 < len(numbers) else len(begin)
        along += [((p, at), s, (q, behind), w, m) for p, s, q, w, m in made.get(number, [])]
    return endless(tuple(along), ((head[0], 0), head[1]))[0] == "marked"


class ProductTest(unittest.TestCase):
    def assert_form(self, told, promise):
        table = product(told, promise)
        rules, origins, head = table
        own = rules_of(told)
        self.assertEqual((type(rules), type(origins), len(rules)), (tuple, tuple, len(origins)))
        self.assertEqual(len(head), 2)
        for rule, origin in zip(rules, origins):
            self.assertIn(rule[4], (0, 1))
            self.assertIs(type(rule[4]), int)
            self.assertTrue(0 <= origin < len(own))
            self.assertEqual(len(rule[3]), len(own[origin][3]))
        return table

    def assert_plays(self, rng, told, table):
        """Plays of the product are plays of the program."""
        rules, origins, (state, symbol) = table
        choices = {}
        for number, rule in enumerate(rules):
            choices.setdefault(rule[:2], []).append(number)
        tower, numbers = [symbol], []
        while tower and (state, tower[-1]) in choices and len(numbers) < 60:
            number = rng.choice(choices[(state, tower.pop())])
            state = rules[number][2]
            tower.extend(rules[number][3][::-1])
            numbers.append(number)
        play(rules, (table[2][0], (table[2][1],)), numbers)
        p, s = head_of(told)
        after = play(rules_of(told), (p, (s,)), [origins[number] for number in numbers])
        self.assertEqual(len(after[1]), len(tower))
        return len(numbers)

    def assert_marked_runs(self, told, promise, table, rounds):
        """The runs of the program that do not keep the promise are marked plays, and no others."""
        rules = rules_of(told)
        for begin, again in rounds:
            marks = [tuple(rules[number][4] for number in row) for row in (begin, again)]
            self.assertEqual(is_marked(table, begin, again), not holds(promise, *marks, 0), (told, promise, begin, again))

    def test_form(self):
        for text in TEXTS:
            for told in (LOOPS, DEEP, ALL_FORMS, program()):
                self.assert_form(told, read_promise(text))

    def test_plays_of_the_product_are_plays_of_the_program(self):
        rng = chance(1)
        steps = 0
        for text in TEXTS:
            for told in (LOOPS, DEEP):
                table = product(told, read_promise(text))
                steps += sum(self.assert_plays(rng, told, table) for _ in range(20))
        self.assertGreater(steps, 1000)

    def test_runs_that_do_not_keep_it_are_the_marked_plays(self):
        rng = chance(2)
        for text in TEXTS:
            promise = read_promise(text)
            for told in (LOOPS, DEEP):
                self.assert_marked_runs(told, promise, product(told, promise), some_rounds(rng, told, 4))

    def test_a_round_of_each_kind(self):
        rules = rules_of(LOOPS)
        rounds = some_rounds(chance(3), LOOPS, 60, 60)
        kept = set()
        for text in TEXTS:
            promise = read_promise(text)
            for begin, again in rounds:
                marks = [tuple(rules[number][4] for number in row) for row in (begin, again)]
                kept.add((text, holds(promise, *marks, 0)))
        # The runs above can tell the promises from each other: most are kept by some and broken by others.
        self.assertGreater(len(kept), len(TEXTS) + 6)

    def test_programs_and_promises_by_chance(self):
        for seed in range(120):
            rng = chance(seed)
            told = some_program(rng)
            rounds = some_rounds(rng, told, 4)[:4]
            for _ in range(3):
                promise = some_promise(rng, 4)
                if rounds and is_promise(promise):
                    table = self.assert_form(told, promise)
                    self.assert_plays(rng, told, table)
                    self.assert_marked_runs(told, promise, table, rounds)

    def test_states_and_symbols_have_the_form_of_a_pushdown(self):
        def assert_thing(thing, is_outer):
            if isinstance(thing, tuple):
                for part in thing:
                    assert_thing(part, False)
            elif is_outer or thing is not None:
                self.assertIn(type(thing), (int, str))

        for text in TEXTS[:12]:
            for p, s, q, w, _ in product(LOOPS, read_promise(text))[0]:
                for thing in (p, s, q) + w:
                    assert_thing(thing, True)

    def test_arguments_stay(self):
        told, promise = copy.deepcopy(LOOPS), read_promise(TEXTS[-1])
        before = copy.deepcopy(promise)
        self.assertEqual(product(told, promise), product(told, promise))
        self.assertEqual((told, promise), (LOOPS, before))

    def test_a_global_picked_in_a_call(self):
        told = program((("while", ONE, (("call", "p", (), ""), ("if", var("g"), (("say", "a"),), (("say", "b"),)))),),
                       {"p": ((), (), (("pick", "g"),))}, ("g",))
        promise = read_promise("not (yes until not (not back:p or next next next say:a))")
        self.assert_marked_runs(told, promise, product(told, promise), some_rounds(chance(5), told, 30, 40))


if __name__ == "__main__":
    unittest.main()
