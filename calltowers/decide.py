"""Deciding a promise, the depth of a program, and the words that it can say (points 30, 32 and 33)."""

from calltowers.circles import Groups
from calltowers.endless import endless
from calltowers.journeys import journey_through
from calltowers.product import product
from calltowers.routes import Routes, round_along


def decide(program, promise):
    """("broken", a run that does not keep the promise) or ("kept", a rest paper for the product)."""
    rules, origins, head = product(program, promise)
    word, paper = endless(rules, head)
    if word == "rest":
        return ("kept", paper)
    parts, begin, loop = paper
    return ("broken", (tuple([traced(origins, part) for part in parts]), traced(origins, begin), traced(origins, loop)))


def traced(origins, items):
    """Items about the rules of a product, told about those of the program."""
    return tuple([origins[item] if item >= 0 else item for item in items])


def depth(program):
    """("deep", n, tale) if n is the greatest number of frames, or ("endless", a run whose stack grows)."""
    journey = journey_through(program)
    groups = Groups(journey.steps, journey.start)
    choices = groups.marked_within()
    if choices:
        return ("endless", round_along(journey.steps, journey.plays, journey.start, choices))
    most = groups.most_marks()
    # On the way to a deepest stack each step leaves as many calls ahead as there can be.
    steps = {near: [step for step in journey.steps[near] if step[1] + most[step[0]] == most[near]] for near in most}
    routes = Routes(steps, journey.plays, [journey.start])
    deepest = [near for near in routes.distance if most[near] == 0]
    row = routes.row_to(min(deepest, key=lambda near: (routes.distance[near], near)))
    return ("deep", 1 + most[journey.start], journey.tale(row))


def can_say(program, word):
    """A tale of the least length whose last rule says a word; None if the program cannot say it."""
    return journey_through(program).tale_saying(word)
