"""Deciding a promise, the depth of a program, and the words that it can say (points 30, 32 and 33)."""

from calltowers.circles import Groups
from calltowers.endless import endless
from calltowers.endsearch import searched, steps_from
from calltowers.numbered import Numbered
from calltowers.product import product
from calltowers.pushdowns import head_of, rules_of
from calltowers.routes import Routes, round_along
from calltowers.shortest import ShortestPlays


def decide(program, promise):
    """("broken", a run that does not keep the promise) or ("kept", a rest paper for the product)."""
    rules, origins, head = product(program, promise)
    word, paper = endless(rules, head)
    if word == "rest":
        return ("kept", paper)
    parts, begin, loop = paper
    return ("broken", (tuple([traced(origins, part) for part in parts]), traced(origins, begin), traced(origins, loop)))


def traced(origins, items):
    """Items about the rules of a product, told about those of the program."""
    return tuple([origins[item] if item >= 0 else item for item in items])


class Journey:
    """The steps between the heads that are met in a program, and the shortest plays of the endings that they pass.

    A step is marked if the stack is greater behind it.
    """

    def __init__(self, program):
        self.rules = rules_of(program)
        head = head_of(program)
        self.pushdown = Numbered([(p, s, q, w, 0) for p, s, q, w, _ in self.rules], (head,))
        self.start = self.pushdown.number_of(head)
        search = searched(self.pushdown, [self.start])
        self.steps = {near: [self.raised(step) for step in steps_from(search, near)] for near in search.exits}
        self.plays = ShortestPlays(self.pushdown, list(self.steps))

    def raised(self, step):
        """A step with the mark 1 if the stack is greater behind it, otherwise 0."""
        target, _, index, ending = step
        is_call = len(self.rules[index][3]) == 2
        return (target, 1 if is_call and ending is None else 0, index, ending)

    def tale(self, row):
        """The tale of a row of pairs: rule, and the ending that is passed behind it, or None."""
        parts, told = self.plays.told([row])
        return (parts, told[0])


def depth(program):
    """("deep", n, tale) if n is the greatest number of frames, or ("endless", a run whose stack grows)."""
    journey = Journey(program)
    groups = Groups(journey.steps, journey.start)
    choices = groups.marked_within()
    if choices:
        return ("endless", round_along(journey.steps, journey.plays, journey.start, choices))
    most = groups.most_marks()
    # On the way to a deepest stack each step leaves as many calls ahead as there can be.
    steps = {near: [step for step in journey.steps[near] if step[1] + most[step[0]] == most[near]] for near in most}
    routes = Routes(steps, journey.plays, journey.start)
    deepest = [near for near in routes.distance if most[near] == 0]
    row = routes.row_to(min(deepest, key=lambda near: (routes.distance[near], near)))
    return ("deep", 1 + most[journey.start], journey.tale(row))


def can_say(program, word):
    """A tale of the least length whose last rule says a word; None if the program cannot say it."""
    journey = Journey(program)
    routes = Routes(journey.steps, journey.plays, journey.start)
    says = [(routes.distance[near], near, index) for near in journey.steps
            for index, _, _, _ in journey.pushdown.rules_from(near) if journey.rules[index][4] == ("say", word)]
    if not says:
        return None
    _, near, index = min(says)
    return journey.tale(routes.row_to(near) + [(index, None)])
