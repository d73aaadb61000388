"""The journey through the heads of a program: steps between them, and plays that are told as tales (point 32)."""

from calltowers.endsearch import searched, steps_from
from calltowers.measures import Lengths
from calltowers.numbered import Numbered
from calltowers.pushdowns import head_of, rules_of
from calltowers.routes import Routes
from calltowers.shortest import ShortestPlays


class Journey:
    """The steps between the heads that are met, and the plays of the endings that they pass, short by a measure.

    A step is marked if the stack is greater behind it.
    """

    def __init__(self, rules, head, measure):
        self.rules = rules
        self.pushdown = Numbered([(p, s, q, w, 0) for p, s, q, w, _ in rules], (head,))
        self.start = self.pushdown.number_of(head)
        self.search = searched(self.pushdown, [self.start])
        self.steps = {near: [self.raised(step) for step in steps_from(self.search, near)] for near in self.search.exits}
        self.plays = ShortestPlays(self.pushdown, list(self.steps), measure)

    def raised(self, step):
        """A step with the mark 1 if the stack is greater behind it, otherwise 0."""
        target, _, index, ending = step
        is_call = len(self.rules[index][3]) == 2
        return (target, 1 if is_call and ending is None else 0, index, ending)

    def tale(self, row):
        """The tale of a row of pairs: rule, and the ending that is passed behind it, or None."""
        parts, told = self.plays.told([row])
        return (parts, told[0])

    def tale_saying(self, word):
        """The tale of a shortest play whose last rule says a word; None if there is none."""
        measure = self.plays.measure
        routes = Routes(self.steps, self.plays, [self.start])
        says = [(measure.joined(routes.distance[near], measure.alone(index)), near, index) for near in self.steps
                for index, _, _, _ in self.pushdown.rules_from(near) if self.rules[index][4] == ("say", word)]
        if not says:
            return None
        _, near, index = min(says)
        return self.tale(routes.row_to(near) + [(index, None)])


def journey_through(program):
    """The journey through a program, with the plays that have the fewest rules."""
    return Journey(rules_of(program), head_of(program), Lengths())
