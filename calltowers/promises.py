"""Promises, and whether they are true at the steps of a round run (points 26 to 29)."""

from calltowers.programs import is_name

KINDS = ("call", "back", "say", "quiet")
DEEPEST_PROMISE = 8
MOST_AHEAD = 6
AHEAD = ("next", "until", "over", "across")

# For each first word but "at": how many promises stand behind it.
PARTS = {"yes": 0, "not": 1, "and": 2, "or": 2, "next": 1, "until": 2, "over": 1, "across": 2}


def is_promise(thing):
    """Whether a tuple is a promise."""
    return has_form(thing, DEEPEST_PROMISE) and not looks_too_far(thing)


def has_form(thing, deepest):
    """Whether something has the form of a promise that is nested at most so deep."""
    if deepest == 0 or not isinstance(thing, tuple) or not thing or not isinstance(thing[0], str):
        return False
    word = thing[0]
    if word == "at":
        return len(thing) == 3 and thing[1] in KINDS and (thing[2] == "" or is_name(thing[2]))
    if word not in PARTS or len(thing) != 1 + PARTS[word]:
        return False
    return all([has_form(part, deepest - 1) for part in thing[1:]])


def looks_too_far(promise):
    """Whether more than 6 different parts of a promise look ahead."""
    return len(parts_ahead(promise)) > MOST_AHEAD


def parts_ahead(promise):
    """The list of the different parts that look ahead, the promise itself included."""
    found = [promise] if promise[0] in AHEAD else []
    if promise[0] != "at":
        for inner in promise[1:]:
            found.extend([part for part in parts_ahead(inner) if part not in found])
    return found


def matches(mark, kind, name):
    """Whether a mark has a kind and, unless it is "", a name."""
    return mark[0] == kind and name in ("", mark[1])


def holds(promise, begin, loop, i):
    """Whether a promise is true at the step i of the run with the marks of begin, and of loop again and again."""
    return RoundRun(begin, loop).truths(promise)[i]


class RoundRun:
    """The steps of begin and of one repetition of the loop: a later repetition is like this one."""

    def __init__(self, begin, loop):
        self.marks = begin + loop
        # For each step the one behind it.
        self.behind = list(range(1, len(self.marks))) + [len(begin)]
        # For each step the one across from it, or None.
        self.across_from = [self.plain_beyond(at) for at in range(len(self.marks))]
        self.match_calls(0, len(begin))
        self.match_calls(len(begin), len(self.marks))

    def plain_beyond(self, at):
        """The step across from one that is no call; None for a call, as if it came back never."""
        behind = self.behind[at]
        return None if self.marks[at][0] == "call" or self.marks[behind][0] == "back" else behind

    def match_calls(self, start, end):
        """Finds the steps by which calls come back, among the steps from start up to the end."""
        waiting = []
        for at in range(start, end):
            if self.marks[at][0] == "call":
                waiting.append(at)
            elif self.marks[at][0] == "back" and waiting:
                self.across_from[waiting.pop()] = at

    def truths(self, promise):
        """For each step whether a promise is true there."""
        word = promise[0]
        if word == "yes":
            return [True for _ in self.marks]
        if word == "at":
            return [matches(mark, promise[1], promise[2]) for mark in self.marks]
        parts = [self.truths(part) for part in promise[1:]]
        if word == "not":
            return [not truth for truth in parts[0]]
        if word == "and":
            return [left and right for left, right in zip(parts[0], parts[1])]
        if word == "or":
            return [left or right for left, right in zip(parts[0], parts[1])]
        ahead = self.behind if word in ("next", "until") else self.across_from
        if word in ("next", "over"):
            return [at is not None and parts[0][at] for at in ahead]
        return come_true(ahead, parts[0], parts[1])


def come_true(ahead, first, second):
    """Whether steps ahead lead to a step where second is true, first being true on the way; for each step.

    Truth spreads backwards from where second is true, so it takes finitely many steps.
    """
    before = [[] for _ in ahead]
    for at, behind in enumerate(ahead):
        if behind is not None:
            before[behind].append(at)
    truths = list(second)
    waiting = [at for at, truth in enumerate(second) if truth]
    while waiting:
        reached = waiting.pop()
        for at in before[reached]:
            if first[at] and not truths[at]:
                truths[at] = True
                waiting.append(at)
    return truths
