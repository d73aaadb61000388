import copy
import itertools
import unittest

from calltowers.nested import certain, difference, meet, other, shortest_word, takes_word, union
from tests.chance import chance, some_nested_machine
from tests.reference import nested_words, plain_takes_word


def call(word):
    return ("call", word)


def back(word):
    return ("back", word)


def plain(word):
    return ("plain", word)


# It counts how deep it is: it ends with no open call, or anywhere if it has seen the word odd.
BRACKETS = ((0,), (
    ("plain", 0, "a", 0), ("call", 0, "p", 1, 5), ("call", 1, "p", 1, 6), ("plain", 1, "a", 1),
    ("back", 1, "p", 6, 1), ("back", 1, "p", 5, 0), ("plain", 0, "odd", 2), ("plain", 1, "odd", 2), ("plain", 2, "a", 2),
), (0, 2))
# It takes what has an open back, and goes on where the stack is empty.
OPENS = ((0,), (
    ("back", 0, "p", None, 1), ("call", 1, "p", 1, 0), ("back", 1, "p", 0, 1), ("back", 1, "q", None, 1),
), (1,))


class TakesWordTest(unittest.TestCase):
    def assert_takes(self, machine, *words):
        for word in words:
            self.assertIs(takes_word(machine, word), True, word)

    def assert_refuses(self, machine, *words):
        for word in words:
            self.assertIs(takes_word(machine, word), False, word)

    def test_the_empty_word(self):
        self.assert_takes(BRACKETS, ())
        self.assert_refuses(OPENS, ())
        self.assert_takes(((3, 4), (), (4,)), ())
        self.assert_refuses(((3,), (), (4,)), ())

    def test_without_starts_moves_or_finals(self):
        moves = (("plain", 0, "a", 0),)
        for machine in (((), moves, (0,)), ((0,), moves, ()), ((), (), ())):
            self.assert_refuses(machine, (), (plain("a"),), (call("a"), back("a")))
        self.assert_takes(((0,), (), (0,)), ())
        self.assert_refuses(((0,), (), (0,)), (plain("a"),), (call("a"),), (back("a"),))

    def test_matched_letters(self):
        self.assert_takes(BRACKETS, (plain("a"),), (call("p"), back("p")), (call("p"), call("p"), back("p"), back("p")),
                          (call("p"), back("p"), plain("a"), call("p"), plain("a"), back("p")))
        self.assert_refuses(BRACKETS, (call("p"), back("q")), (call("q"), back("q")), (plain("b"),), (call("p"), plain("p")))

    def test_open_calls(self):
        self.assert_refuses(BRACKETS, (call("p"),), (call("p"), call("p"), back("p")))
        self.assert_takes(BRACKETS, (call("p"), plain("odd")), (call("p"), call("p"), back("p"), plain("odd"), plain("a")))
        self.assert_takes(OPENS, (back("p"), call("p")), (back("p"), call("p"), call("p"), back("p")))

    def test_open_backs(self):
        self.assert_refuses(BRACKETS, (back("p"),), (call("p"), back("p"), back("p")))
        self.assert_takes(OPENS, (back("p"),), (back("p"), back("q")), (back("p"), call("p"), back("p"), back("q")))
        # With None in it, a back is there only if the stack is empty, and with a symbol only if this is on top.
        self.assert_refuses(OPENS, (back("p"), call("p"), back("q")), (back("p"), back("p")), (back("q"),))
        self.assert_takes(OPENS, (back("p"), back("q"), call("p"), back("p"), back("q"), call("p"), call("p")))

    def test_a_symbol_that_differs(self):
        machine = ((0,), (("call", 0, "a", 1, 0), ("call", 0, "b", 1, 1), ("back", 1, "c", 0, 2), ("back", 1, "d", 1, 2)), (2,))
        self.assert_takes(machine, (call("a"), back("c")), (call("b"), back("d")))
        self.assert_refuses(machine, (call("a"), back("d")), (call("b"), back("c")))

    def test_several_ways(self):
        machine = ((0, 9), (
            ("plain", 0, "a", 1), ("plain", 0, "a", 2), ("plain", 1, "a", 3), ("plain", 2, "b", 3), ("plain", 9, "c", 3),
            ("call", 3, "p", 4, 0), ("call", 3, "p", 4, 1), ("back", 4, "p", 0, 5), ("back", 4, "p", 1, 6), ("plain", 6, "a", 7),
        ), (3, 7))
        self.assert_takes(machine, (plain("a"), plain("a")), (plain("a"), plain("b")), (plain("c"),),
                          (plain("c"), call("p"), back("p"), plain("a")))
        self.assert_refuses(machine, (plain("a"),), (plain("c"), call("p"), back("p")), (plain("b"),))

    def test_what_a_call_puts_goes_with_where_it_leads(self):
        machine = ((0,), (
            ("call", 0, "p", 1, 0), ("call", 0, "p", 2, 1), ("back", 1, "p", 1, 3), ("back", 2, "p", 0, 3),
            ("back", 1, "q", 0, 3),
        ), (3,))
        self.assert_refuses(machine, (call("p"), back("p")))
        self.assert_takes(machine, (call("p"), back("q")))

    def test_a_long_word(self):
        many = 3000
        self.assert_takes(BRACKETS, (call("p"),) * many + (back("p"),) * many, (plain("a"),) * many)
        self.assert_refuses(BRACKETS, (call("p"),) * many + (back("p"),) * (many - 1))

    def test_by_chance(self):
        for seed in range(40):
            machine = some_nested_machine(chance(seed), ("a", "b"))
            for word in itertools.islice(nested_words(("a", "b"), 4), 700):
                self.assertIs(takes_word(machine, word), plain_takes_word(machine, word), (machine, word))


class AlgebraTest(unittest.TestCase):
    def assert_takes_like(self, machine, expected, words, most):
        """The machine takes a word made of these words exactly if expected is true of it."""
        for word in nested_words(words, most):
            self.assertIs(plain_takes_word(machine, word), expected(word), word)

    def assert_is_machine(self, machine):
        starts, moves, finals = machine
        for node in starts + finals:
            self.assertIs(type(node), int)
        for move in moves:
            self.assertIs(type(move), tuple)
            self.assertEqual(len(move), {"plain": 4, "call": 5, "back": 5}[move[0]])
            self.assertIs(type(move[1]), int)
            self.assertIs(type(move[4 if move[0] == "back" else 3]), int)
        self.assertEqual(len(set(moves)), len(moves))

    def test_meet_and_union(self):
        for first, second in itertools.product((BRACKETS, OPENS, ((), (), ()), ((0,), (), (0,))), repeat=2):
            both, either = meet(first, second), union(first, second)
            self.assert_is_machine(both)
            self.assert_is_machine(either)
            words = ("p",) if BRACKETS not in (first, second) else ("p", "a") if first == second else ("p", "odd")
            self.assert_takes_like(both, lambda word: plain_takes_word(first, word) and plain_takes_word(second, word), words, 4)
            self.assert_takes_like(either, lambda word: plain_takes_word(first, word) or plain_takes_word(second, word), words, 4)

    def test_meet_and_union_with_equal_numbers(self):
        # Both have the nodes 0 and 1 and the symbol 0; a way through both of them would take more.
        first = ((0,), (("call", 0, "p", 1, 0), ("back", 1, "q", 0, 0)), (0,))
        second = ((0,), (("call", 0, "q", 1, 0), ("back", 1, "p", 0, 0)), (0,))
        either = union(first, second)
        self.assertIs(takes_word(either, (call("p"), back("q"))), True)
        self.assertIs(takes_word(either, (call("q"), back("p"))), True)
        self.assertIs(takes_word(either, (call("p"), back("p"))), False)
        self.assertIs(takes_word(either, (call("p"), back("q"), call("q"), back("p"))), False)
        self.assertIs(takes_word(meet(first, second), (call("p"), back("q"))), False)
        self.assertIs(takes_word(meet(first, second), ()), True)

    def test_meet_where_both_stacks_are_empty(self):
        first = ((0,), (("call", 0, "p", 0, 0), ("back", 0, "p", 0, 0), ("back", 0, "p", None, 0)), (0,))
        second = ((0,), (("call", 0, "p", 0, 3), ("back", 0, "p", None, 1), ("back", 1, "p", 3, 1)), (0, 1))
        self.assert_takes_like(meet(first, second), lambda word: plain_takes_word(second, word), ("p",), 5)

    def test_by_chance(self):
        for seed in range(80):
            rng = chance(100 + seed)
            first, second = some_nested_machine(rng, ("a", "b")), some_nested_machine(rng, ("a", "b"))
            given = copy.deepcopy((first, second))
            both, either = meet(first, second), union(first, second)
            sure, contrary = certain(first, ("b", "a")), other(first, ("b", "a"))
            self.assertEqual((first, second), given)
            for word in itertools.islice(nested_words(("a", "b"), 4), 400):
                left, right = plain_takes_word(first, word), plain_takes_word(second, word)
                self.assertIs(plain_takes_word(both, word), left and right)
                self.assertIs(plain_takes_word(either, word), left or right)
                self.assertIs(plain_takes_word(sure, word), left)
                self.assertIs(plain_takes_word(contrary, word), not left)

    def assert_certain(self, machine, words):
        """Exactly one start, and for each node, letter and symbol exactly one move."""
        self.assert_is_machine(machine)
        starts, moves, finals = machine
        self.assertEqual(len(starts), 1)
        self.assertLessEqual({move[2] for move in moves}, set(words))
        nodes = {node for move in moves for node in (move[1], move[4] if move[0] == "back" else move[3])} | set(starts + finals)
        symbols = {move[4] for move in moves if move[0] == "call"} | {None}
        for node, word in itertools.product(nodes, words):
            self.assertEqual(len([move for move in moves if move[:3] == ("plain", node, word)]), 1)
            self.assertEqual(len([move for move in moves if move[:3] == ("call", node, word)]), 1)
            found = [move[3] for move in moves if move[:3] == ("back", node, word)]
            self.assertEqual(sorted(found, key=str), sorted(symbols, key=str))

    def test_certain(self):
        for machine, words in ((BRACKETS, ("p", "a", "odd")), (OPENS, ("p", "q")), (OPENS, ("x",)), (((), (), ()), ("p",)),
                               (((4,), (), (4,)), ("p", "q"))):
            given = copy.deepcopy(machine)
            sure, contrary = certain(machine, words), other(machine, words)
            self.assertEqual(machine, given)
            self.assert_certain(sure, words)
            self.assert_certain(contrary, words)
            self.assert_takes_like(sure, lambda word: plain_takes_word(machine, word), words, 3)
            self.assert_takes_like(contrary, lambda word: not plain_takes_word(machine, word), words, 3)

    def test_certain_with_moves_of_other_words(self):
        for words in (("p",), ("a",), ("a", "p"), ("odd",), ("new", "p")):
            self.assert_takes_like(certain(BRACKETS, words), lambda word: plain_takes_word(BRACKETS, word), words, 4)
            self.assert_takes_like(other(BRACKETS, words), lambda word: not plain_takes_word(BRACKETS, word), words, 4)
            # It takes no word that is made of other words.
            for machine in (certain(BRACKETS, words), other(BRACKETS, words)):
                for name in {"a", "p", "odd", "else"} - set(words):
                    for kind in ("plain", "call", "back"):
                        self.assertIs(takes_word(machine, ((kind, name),)), False)

    def test_certain_without_words(self):
        for machine, is_taken in ((BRACKETS, True), (OPENS, False)):
            starts, moves, finals = certain(machine, ())
            self.assertEqual((len(starts), moves), (1, ()))
            self.assertIs(takes_word((starts, moves, finals), ()), is_taken)
            self.assertIs(takes_word(other(machine, ()), ()), not is_taken)
            self.assertEqual(other(machine, ())[1], ())
            self.assertIs(takes_word(certain(machine, ()), (plain("a"),)), False)
            self.assertIs(takes_word(other(machine, ()), (plain("a"),)), False)

    def test_certain_where_many_ways_are_open(self):
        # Which of the last three letters was an a is known only at the end, within each call anew.
        moves = [("plain", 0, word, 0) for word in ("a", "b")] + [("plain", 0, "a", 1)]
        moves += [("plain", at, word, at + 1) for at in (1, 2) for word in ("a", "b")]
        moves += [("call", 0, "a", 0, 0), ("call", 1, "a", 0, 1), ("back", 3, "a", 0, 0), ("back", 3, "a", 1, 2)]
        machine = ((0,), tuple(moves), (3,))
        self.assert_certain(certain(machine, ("a", "b")), ("a", "b"))
        self.assert_takes_like(certain(machine, ("a", "b")), lambda word: plain_takes_word(machine, word), ("a", "b"), 4)
        word = (plain("b"), call("a"), plain("a"), plain("b"), plain("b"), back("a"), plain("a"), plain("b"), plain("b"))
        for name in ("a", "b"):
            longer = word[:-1] + (plain("b"), plain(name))
            for taken in (word, longer):
                self.assertIs(takes_word(certain(machine, ("a", "b")), taken), plain_takes_word(machine, taken))
                self.assertIs(takes_word(other(machine, ("a", "b")), taken), not plain_takes_word(machine, taken))


class ShortestWordTest(unittest.TestCase):
    def test_the_empty_word(self):
        self.assertEqual(shortest_word(BRACKETS), ())
        self.assertEqual(shortest_word(((5, 6), (), (6,))), ())

    def test_none(self):
        moves = (("call", 0, "p", 1, 0), ("back", 1, "p", 3, 2), ("back", 1, "p", None, 2), ("plain", 3, "a", 2))
        for machine in (((0,), moves, (2,)), ((), moves, (0, 1, 2)), ((0,), moves, ()), ((), (), ())):
            self.assertIsNone(shortest_word(machine))

    def test_open_letters(self):
        self.assertEqual(shortest_word(OPENS), (back("p"),))
        self.assertEqual(shortest_word(((0,), (("call", 0, "p", 1, 0), ("plain", 1, "a", 2)), (2,))), (call("p"), plain("a")))
        machine = ((0,), (
            ("back", 0, "p", None, 1), ("back", 1, "q", None, 2), ("call", 2, "p", 3, 1), ("call", 3, "q", 4, 1),
        ), (4,))
        self.assertEqual(shortest_word(machine), (back("p"), back("q"), call("p"), call("q")))

    def test_behind_a_call_that_comes_back(self):
        moves = (("call", 0, "p", 1, 0), ("plain", 1, "a", 2), ("back", 2, "p", 0, 3), ("plain", 3, "b", 4))
        self.assertEqual(shortest_word(((0,), moves, (4,))), (call("p"), plain("a"), back("p"), plain("b")))
        # The call can be made in itself; the longer plain way is not taken.
        moves += (("call", 1, "p", 1, 0), ("plain", 0, "a", 5), ("plain", 5, "a", 6), ("plain", 6, "a", 7), ("plain", 7, "a", 3))
        self.assertEqual(shortest_word(((0,), moves, (4,))), (call("p"), plain("a"), back("p"), plain("b")))
        # A back by which the call does not come back is shorter, but is not there.
        moves += (("back", 1, "p", 1, 4), ("back", 0, "p", 0, 4))
        self.assertEqual(shortest_word(((0,), moves, (4,))), (call("p"), plain("a"), back("p"), plain("b")))

    def test_the_least_of_several_ones(self):
        moves = (("plain", 0, "a", 1), ("call", 0, "z", 1, 0), ("back", 0, "zz", None, 1))
        self.assertEqual(shortest_word(((0,), moves, (1,))), (back("zz"),))
        self.assertEqual(shortest_word(((0,), moves[:2], (1,))), (call("z"),))
        moves = (("plain", 0, "a", 1), ("plain", 1, "c", 3), ("plain", 0, "a", 2), ("plain", 2, "b", 3), ("plain", 0, "b", 1))
        self.assertEqual(shortest_word(((0,), moves, (3,))), (plain("a"), plain("b")))

    def test_the_least_word_within_calls(self):
        # Both halves of the word are as short as can be; the letters within decide, and then those behind.
        moves = (
            ("call", 0, "p", 1, 0), ("plain", 1, "b", 2), ("plain", 1, "a", 3), ("back", 2, "a", 0, 4), ("back", 3, "b", 0, 4),
            ("plain", 4, "z", 5), ("call", 0, "p", 6, 1), ("plain", 6, "a", 7), ("back", 7, "b", 1, 8), ("plain", 8, "y", 5),
            ("call", 0, "q", 9, 0), ("plain", 9, "a", 2),
        )
        self.assertEqual(shortest_word(((0,), moves, (5,))), (call("p"), plain("a"), back("b"), plain("y")))
        self.assertEqual(shortest_word(((0,), moves[:6], (5,))), (call("p"), plain("a"), back("b"), plain("z")))

    def test_numbers_of_calls_in_calls(self):
        # What cannot be needed is far too long to be written out.
        moves = [("call", 3 * at, "p", 3 * at + 3, 0) for at in range(60)]
        moves += [("call", 3 * at + 1, "p", 3 * at + 3, 1) for at in range(60)]
        moves += [("back", 3 * at + 5, "p", 0, 3 * at + 1) for at in range(60)]
        moves += [("back", 3 * at + 5, "p", 1, 3 * at + 2) for at in range(60)]
        moves += [("plain", 180, "a", 182), ("plain", 0, "a", 500), ("plain", 500, "b", 501)]
        self.assertEqual(shortest_word(((0,), tuple(moves), (501,))), (plain("a"), plain("b")))
        self.assertIsNone(shortest_word(((0,), tuple(moves), (777,))))

    def test_a_long_word(self):
        many = 700
        moves = [("call", at, "p", at + 1, at) for at in range(many)]
        moves += [("back", many + at, "q", many - 1 - at, many + at + 1) for at in range(many)]
        word = shortest_word(((0,), tuple(moves), (2 * many,)))
        self.assertEqual(word, (call("p"),) * many + (back("q"),) * many)

    def test_by_chance(self):
        sizes = set()
        for seed in range(400):
            rng = chance(1000 + seed)
            starts, moves, finals = some_nested_machine(rng, ("a", "b"), 6, 20)
            machine = (starts, moves, tuple(node for node in finals if node not in starts))
            words = nested_words(("a", "b"), 4)
            expected = next((word for word in words if plain_takes_word(machine, word)), None)
            word = shortest_word(machine)
            sizes.add(None if word is None else len(word))
            if expected is not None or word is not None and len(word) <= 4:
                self.assertEqual(word, expected, machine)
            elif word is not None:
                self.assertTrue(plain_takes_word(machine, word))
        self.assertLessEqual({None, 1, 2, 3, 5}, sizes)


class DifferenceTest(unittest.TestCase):
    def test_the_same_words_in_different_ways(self):
        first = ((0,), (("plain", 0, "a", 1), ("plain", 1, "a", 0), ("call", 0, "p", 0, 0), ("back", 0, "p", 0, 0),
                        ("call", 1, "p", 0, 1), ("back", 0, "p", 1, 1), ("back", 1, "p", 0, 1), ("back", 1, "p", 1, 0)), (0, 1))
        second = ((3, 4), (("plain", 3, "a", 3), ("plain", 3, "a", 4), ("call", 3, "p", 3, 9), ("back", 3, "p", 9, 3),
                           ("call", 3, "p", 4, 8)), (3, 4))
        self.assertIsNone(difference(first, second, ("a", "p")))
        self.assertIsNone(difference(((), (), ()), ((0,), (("plain", 0, "a", 1),), (2,)), ("a",)))
        self.assertIsNone(difference(BRACKETS, BRACKETS, ("a", "p", "odd")))
        self.assertIsNone(difference(OPENS, OPENS, ("p", "q")))

    def test_the_shortest_and_least(self):
        self.assertEqual(difference(BRACKETS, OPENS, ("a", "p", "q")), ())
        first = ((0,), (("plain", 0, "a", 0), ("call", 0, "p", 0, 0), ("back", 0, "p", 0, 0)), (0,))
        for more, expected in (
            ((("back", 0, "p", None, 0),), (back("p"),)), ((("plain", 0, "b", 0),), (plain("b"),)),
            ((("plain", 0, "b", 0), ("back", 0, "q", 0, 0)), (plain("b"),)),
            ((("call", 0, "q", 0, 0), ("plain", 0, "b", 0)), (call("q"),)),
            ((("back", 0, "q", 0, 0),), (call("p"), back("q"))), ((("plain", 0, "a", 7),), None),
        ):
            second = (first[0], first[1] + more, first[2])
            self.assertEqual(difference(first, second, ("a", "b", "p", "q")), expected)
            self.assertEqual(difference(second, first, ("a", "b", "p", "q")), expected)

    def test_behind_calls(self):
        first = ((0,), (("call", 0, "p", 1, 0), ("plain", 1, "a", 1), ("back", 1, "p", 0, 2), ("plain", 2, "a", 3)), (3,))
        second = ((0,), (("call", 0, "p", 1, 0), ("plain", 1, "a", 4), ("back", 4, "p", 0, 2), ("plain", 2, "a", 3)), (3,))
        self.assertEqual(difference(first, second, ("a", "p")), (call("p"), back("p"), plain("a")))

    def test_other_words_count_for_nothing(self):
        second = (BRACKETS[0], BRACKETS[1] + (("plain", 0, "else", 1), ("call", 0, "else", 2, 5)), BRACKETS[2])
        self.assertIsNone(difference(BRACKETS, second, ("a", "p", "odd")))
        self.assertIsNone(difference(BRACKETS, second, ()))
        self.assertEqual(difference(BRACKETS, second, ("a", "p", "odd", "else")), (call("else"),))
        self.assertEqual(difference(BRACKETS, OPENS, ()), ())
        self.assertIsNone(difference(BRACKETS, ((0,), (), (0,)), ("q",)))

    def test_nodes_that_differ_by_what_their_calls_put(self):
        moves = [("plain", 0, name, at) for at, name in enumerate("abc", 1)]
        moves += [("call", at, "p", 4, at) for at in (1, 2, 3)] + [("back", 4, "p", at, 4 + at) for at in (1, 2, 3)]
        moves += [("plain", 5, "a", 8), ("plain", 6, "b", 8), ("plain", 7, "a", 8)]
        # What stands behind counts for nothing, and is alike.
        moves += [("plain", at, "c", 8) for at in range(10, 20)]
        machine = ((0,), tuple(moves), (8,))
        sure, words = certain(machine, ("a", "b", "c", "p")), ("a", "b", "c", "p")
        for first, last in itertools.product("abc", repeat=2):
            word = (plain(first), call("p"), back("p"), plain(last))
            self.assertIs(takes_word(sure, word), (first, last) in {("a", "a"), ("b", "b"), ("c", "a")})
        same = ((0,), tuple(move for move in moves if move[:3] != ("plain", 0, "c")) + (("plain", 0, "c", 1),), (8,))
        self.assertIsNone(difference(machine, same, words))
        other_way = ((0,), tuple(move for move in moves if move[:3] != ("plain", 0, "c")) + (("plain", 0, "c", 2),), (8,))
        self.assertEqual(difference(machine, other_way, words), (plain("c"), call("p"), back("p"), plain("a")))

    def test_long_machines(self):
        many = 1500
        moves = tuple(("plain", at, "a", at + 1) for at in range(many)) + (("call", many, "p", many, 0), ("back", many, "p", 0, many))
        first, second = ((0,), moves, (many,)), ((0,), moves + (("back", many, "p", None, many),), (many,))
        self.assertEqual(difference(first, second, ("a", "p")), (plain("a"),) * many + (back("p"),))
        self.assertIsNone(difference(first, first, ("a", "p")))

    def test_the_given_machines_stay(self):
        given = copy.deepcopy((BRACKETS, OPENS))
        difference(BRACKETS, OPENS, ("p", "a"))
        shortest_word(OPENS)
        takes_word(BRACKETS, (plain("a"),))
        self.assertEqual((BRACKETS, OPENS), given)

    def test_by_chance(self):
        sizes = set()
        for seed in range(400):
            rng = chance(5000 + seed)
            words = ("a", "b") if seed % 2 else ("a",)
            first = some_nested_machine(rng, ("a", "b"), 5, 14)
            second = some_nested_machine(rng, ("a", "b"), 5, 14)
            if seed % 4 > 1:
                second = (first[0], tuple(move for move in first[1] if rng.random() < 0.9), first[2])
            most = 4 if len(words) == 2 else 6
            expected = next((word for word in nested_words(words, most)
                             if plain_takes_word(first, word) != plain_takes_word(second, word)), None)
            word = difference(first, second, words)
            sizes.add(None if word is None else len(word))
            if expected is not None or word is not None and len(word) <= most:
                self.assertEqual(word, expected, (first, second))
            elif word is not None:
                self.assertNotEqual(plain_takes_word(first, word), plain_takes_word(second, word))
        self.assertLessEqual({None, 0, 1, 2, 3}, sizes)


if __name__ == "__main__":
    unittest.main()
