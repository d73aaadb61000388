"""Pushdowns, their plays, and the rules of a program (points 11 to 14)."""

from calltowers.errors import PlayError
from calltowers.flow import points
from calltowers.order import rank
from calltowers.player import first, step_along


def use(rule, configuration):
    """The configuration to which a rule leads; None if it cannot be used."""
    p, s, q, w, _ = rule
    state, stack = configuration
    if not stack or state != p or stack[0] != s:
        return None
    return (q, w + stack[1:])


def play(rules, configuration, numbers):
    """The configuration after a play; raises PlayError if it does not go through."""
    state, stack = configuration
    # The top comes last here, so that a step costs the same however deep the stack is.
    tower = list(stack[::-1])
    for at, number in enumerate(numbers):
        if not 0 <= number < len(rules) or not tower:
            raise PlayError(at)
        p, s, q, w, _ = rules[number]
        if state != p or tower.pop() != s:
            raise PlayError(at)
        state = q
        tower.extend(w[::-1])
    return (state, tuple(tower[::-1]))


def head_of(program):
    """The first head of a program."""
    shared, result, stack = first(program)
    return ((shared, result), stack[0])


def rules_of(program):
    """The tuple of the rules of a program."""
    search = HeadSearch(head_of(program))
    rows = {proc: points(program["procs"][proc][2]) for proc in program["procs"]}
    while search.waiting:
        head = search.waiting.pop()
        search.store(head, rules_from(program, rows, head))
    heads = sorted(search.rules, key=rank)
    return tuple([rule for head in heads for rule in search.rules[head]])


def rules_from(program, rows, head):
    """The rules that the steps from a head give, in the order of the choices; rows are the points by procedure."""
    rules = []
    (shared, result), frame = head
    for choice in (0, 1):
        after, mark = step_along(program, rows[frame[0]], (shared, result, (frame,)), choice)
        rule = ((shared, result), frame, after[:2], after[2], mark)
        if rule not in rules:
            rules.append(rule)
    return rules


class HeadSearch:
    """The search for the heads of a program: their rules, and the heads that wait for theirs."""

    def __init__(self, head):
        self.rules = {head: []}
        self.waiting = [head]
        # The states behind a back and the frames that wait below: each one can meet each other one.
        self.states = {}
        self.frames = {}

    def store(self, head, rules):
        """Keeps the rules of a head, and finds the heads that come about by them."""
        self.rules[head] = rules
        for _, _, q, w, _ in rules:
            if w:
                self.reach((q, w[0]))
            elif q not in self.states:
                self.states[q] = True
                for frame in list(self.frames):
                    self.reach((q, frame))
            if len(w) == 2 and w[1] not in self.frames:
                self.frames[w[1]] = True
                for state in list(self.states):
                    self.reach((state, w[1]))

    def reach(self, head):
        """Lets a head wait for its rules, if it is a new one."""
        if head not in self.rules:
            self.rules[head] = []
            self.waiting.append(head)
