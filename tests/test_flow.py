import unittest

from calltowers.flow import points
from tests.samples import ALL_FORMS, LAST, ONE, ZERO, nested_body

A = ("say", "a")
B = ("say", "b")
C = ("say", "c")


def numbers(body):
    """Only the numbers of the points."""
    return [row[1:] for row in points(body)]


class PointsTest(unittest.TestCase):
    def test_empty_procedure(self):
        self.assertEqual(points(()), [(LAST, None, None, None)])

    def test_one_after_the_other(self):
        self.assertEqual(points((A, B)), [(A, 1, None, None), (B, 2, None, None), (LAST, None, None, None)])

    def test_statements_without_branches(self):
        for statement in (("set", "x", ONE), ("pick", "x"), A, ("call", "p", (), ""), ("back", ZERO)):
            self.assertEqual(points((statement,)), [(statement, 1, None, None), (LAST, None, None, None)])

    def test_if(self):
        statement = ("if", ONE, (A, B), (C,))
        self.assertEqual(points((statement, A)), [
            (statement, 4, 1, 3), (A, 2, None, None), (B, 4, None, None), (C, 4, None, None),
            (A, 5, None, None), (LAST, None, None, None)])

    def test_either(self):
        statement = ("either", (A,), (B, C))
        self.assertEqual(points((statement,)), [
            (statement, 4, 1, 2), (A, 4, None, None), (B, 3, None, None), (C, 4, None, None),
            (LAST, None, None, None)])

    def test_while(self):
        statement = ("while", ONE, (A, B))
        self.assertEqual(points((C, statement, C)), [
            (C, 1, None, None), (statement, 4, 2, 4), (A, 3, None, None), (B, 1, None, None),
            (C, 5, None, None), (LAST, None, None, None)])

    def test_empty_bodies(self):
        none = (None, None, None)
        self.assertEqual(numbers((("if", ONE, (), ()),)), [(1, 1, 1), none])
        self.assertEqual(numbers((("either", (), ()), A)), [(1, 1, 1), (2, None, None), none])
        self.assertEqual(numbers((("while", ONE, ()),)), [(1, 0, 1), none])
        self.assertEqual(numbers((A, ("while", ONE, ()), A)), [(1, None, None), (2, 1, 2), (3, None, None), none])
        self.assertEqual(numbers((("if", ONE, (), (A,)),)), [(2, 2, 1), (2, None, None), none])
        self.assertEqual(numbers((("if", ONE, (A,), ()),)), [(2, 1, 2), (2, None, None), none])
        self.assertEqual(numbers((("either", (), (A,)),)), [(2, 2, 1), (2, None, None), none])
        self.assertEqual(numbers((("either", (A,), ()),)), [(2, 1, 2), (2, None, None), none])

    def test_last_statement_of_a_body_in_a_while(self):
        none = (None, None, None)
        for word in (("if", ONE), ("either",)):
            body = (("while", ONE, (word + ((A,), (B,)),)),)
            self.assertEqual(numbers(body), [(4, 1, 4), (0, 2, 3), (0, None, None), (0, None, None), none])
            body = (("while", ONE, (word + ((), ()),)),)
            self.assertEqual(numbers(body), [(2, 1, 2), (0, 0, 0), none])
        self.assertEqual(numbers((("while", ONE, (("while", ZERO, (A,)),)),)),
                         [(3, 1, 3), (0, 2, 0), (1, None, None), none])
        self.assertEqual(numbers((("while", ONE, (("while", ZERO, ()),)),)), [(2, 1, 2), (0, 1, 0), none])

    def test_last_statement_of_a_body_in_if_and_either(self):
        none = (None, None, None)
        body = (("if", ONE, (("either", (A,), (B,)),), (("if", ONE, (), ()),)), C)
        self.assertEqual(numbers(body), [(5, 1, 4), (5, 2, 3), (5, None, None), (5, None, None), (5, 5, 5),
                                         (6, None, None), none])

    def test_deep(self):
        self.assertEqual(numbers(nested_body(6, (A,))), [
            (6, 1, 6), (0, 2, 0), (1, 3, 1), (2, 4, 2), (3, 5, 3), (4, None, None), (None, None, None)])

    def test_statements_in_the_order_they_are_written(self):
        rows = points(ALL_FORMS["procs"]["main"][2])
        self.assertEqual([row[0][0] for row in rows], [
            "set", "pick", "if", "say", "if", "say", "if", "while", "pick", "while", "either", "call", "either",
            "either", "say", "say", "call", "call", "back", "back"])

    def test_a_new_list_at_each_call(self):
        body = (A, B)
        points(body).clear()
        self.assertEqual(len(points(body)), 3)


if __name__ == "__main__":
    unittest.main()
