"""Whether a program always ends, and in how many steps at most (point 48)."""

from calltowers.circles import Groups
from calltowers.journeys import journey_through
from calltowers.routes import round_along


def always_ends(program):
    """("ends", the greatest number of steps of a run) or ("endless", an endless run)."""
    journey = journey_through(program)
    # Here each step counts, and not only those that make the stack greater.
    steps = {head: [counted(step) for step in journey.steps[head]] for head in journey.steps}
    groups = Groups(steps, journey.start)
    choices = groups.marked_within()
    if choices:
        return ("endless", round_along(steps, journey.plays, journey.start, choices))
    most = {}
    for group in groups.groups:
        most[group[0]] = longest(journey.pushdown, group[0], most)
    return ("ends", max(list(most[journey.start].values())))


def counted(step):
    """A step between heads with the mark 1."""
    target, _, index, ending = step
    return (target, 1, index, ending)


def longest(pushdown, head, most):
    """For each exit of a head the greatest number of steps to it, when those of the heads ahead of it are known."""
    found = {}
    for _, _, q, w in pushdown.rules_from(head):
        if not w:
            found[q] = max(found.get(q, 0), 1)
            continue
        for state, size in most[pushdown.head_at(q, w[0])].items():
            if len(w) == 1:
                found[state] = max(found.get(state, 0), 1 + size)
                continue
            for end, more in most[pushdown.head_at(state, w[1])].items():
                found[end] = max(found.get(end, 0), 1 + size + more)
    return found
