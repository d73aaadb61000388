"""Slow and plain ways to the same answers, straight from the words of the document."""

from calltowers.order import rank
from calltowers.pushdowns import use


def plain_endings(rules):
    """The endings of point 20, by going over all rules until nothing new comes about."""
    found = set()
    while True:
        more = set()
        for p, s, q, w, m in rules:
            if not w:
                more.add((p, s, q, m))
                continue
            for p1, s1, r, f in found:
                if (p1, s1) != (q, w[0]):
                    continue
                if len(w) == 1:
                    more.add((p, s, r, max(m, f)))
                else:
                    more |= {(p, s, u, max(m, f, g)) for p2, s2, u, g in found if (p2, s2) == (r, w[1])}
        if more <= found:
            return sorted(found, key=rank)
        found |= more


def plain_steps(rules, head):
    """The steps of point 21."""
    found = set()
    ends = plain_endings(rules)
    for p, s, q, w, m in rules:
        if (p, s) == head and w:
            found.add(((q, w[0]), m))
            if len(w) == 2:
                found |= {((r, w[1]), max(m, f)) for p1, s1, r, f in ends if (p1, s1) == (q, w[0])}
    return sorted(found, key=rank)


def plain_graph(rules, head):
    """The steps from each head that is met."""
    graph = {}
    waiting = [head]
    while waiting:
        near = waiting.pop()
        if near not in graph:
            graph[near] = plain_steps(rules, near)
            waiting += [target for target, _ in graph[near]]
    return graph


def plain_met(rules, head):
    return sorted(plain_graph(rules, head), key=rank)


def leads(graph, start):
    """The heads to which at least one step leads from start."""
    found = set()
    waiting = [target for target, _ in graph[start]]
    while waiting:
        near = waiting.pop()
        if near not in found:
            found.add(near)
            waiting += [target for target, _ in graph[near]]
    return found


def has_marked_circle(rules, head):
    """Whether a circle of steps between met heads has a marked one (point 22)."""
    graph = plain_graph(rules, head)
    return any(mark == 1 and near in leads(graph, target) | {target} for near in graph for target, mark in graph[near])


def most_marks(rules, head):
    """For each met head the greatest number of marked steps on a way from it, if no circle is marked."""
    graph = plain_graph(rules, head)
    most = {near: 0 for near in graph}
    changed = True
    while changed:
        changed = False
        for near in graph:
            for target, mark in graph[near]:
                if most[target] + mark > most[near]:
                    most[near] = most[target] + mark
                    changed = True
    return tuple([(near, most[near]) for near in sorted(most, key=rank)])


def least_lengths(rules):
    """For each ending the least number of rules of a play."""
    least = {}
    changed = True
    while changed:
        changed = False
        for p, s, q, w, m in rules:
            offers = [((p, s, q, m), 1)] if not w else []
            for (p1, s1, r, f), size in list(least.items()):
                if not w or (p1, s1) != (q, w[0]):
                    continue
                if len(w) == 1:
                    offers.append(((p, s, r, max(m, f)), 1 + size))
                    continue
                for (p2, s2, u, g), more in list(least.items()):
                    if (p2, s2) == (r, w[1]):
                        offers.append(((p, s, u, max(m, f, g)), 1 + size + more))
            for ending, size in offers:
                if size < least.get(ending, size + 1):
                    least[ending] = size
                    changed = True
    return least


def expanded(parts, items):
    """Items written out, part by part."""
    numbers = []
    for item in items:
        numbers += [item] if item >= 0 else expanded(parts, parts[-1 - item])
    return numbers


def played_down(rules, configuration, numbers):
    """The configuration after a play, and whether no configuration ahead of its end has an empty stack; or None."""
    filled = True
    for number in numbers:
        filled = filled and configuration[1] != ()
        configuration = use(rules[number], configuration)
        if configuration is None:
            return None
    return configuration, filled


def has_right_items(rules, parts, items, before):
    return all(item < len(rules) if item >= 0 else -1 - item < before for item in items)


def plain_takes_round(rules, head, paper):
    """The judge of point 23, by writing everything out."""
    parts, begin, again = paper
    for at, part in enumerate(parts):
        if not part or not has_right_items(rules, parts, part, at):
            return False
        numbers = expanded(parts, part)
        first = rules[numbers[0]]
        after = played_down(rules, (first[0], (first[1],)), numbers)
        if after is None or after[0][1] != () or not after[1]:
            return False
    if not again or not has_right_items(rules, parts, begin + again, len(parts)):
        return False
    after = played_down(rules, (head[0], (head[1],)), expanded(parts, begin))
    if after is None or not after[0][1]:
        return False
    state, stack = after[0]
    numbers = expanded(parts, again)
    behind = played_down(rules, (state, stack[:1]), numbers)
    if behind is None or not behind[1] or not behind[0][1]:
        return False
    return (behind[0][0], behind[0][1][0]) == (state, stack[0]) and any(rules[k][4] == 1 for k in numbers)


def plain_takes_rest(rules, head, paper):
    """The judge of point 24, in its words."""
    told, ranks = paper
    numbers = dict(ranks)
    if len(numbers) != len(ranks) or head not in numbers or min(numbers.values()) < 0:
        return False
    for p, s, q, w, m in rules:
        if (p, s) not in numbers:
            continue
        a = numbers[(p, s)]
        if not w:
            if (p, s, q, m) not in told:
                return False
            continue
        if numbers.get((q, w[0]), a + 1) > a - m:
            return False
        for p1, s1, r, f in told:
            if (p1, s1) != (q, w[0]):
                continue
            if len(w) == 1:
                if (p, s, r, max(m, f)) not in told:
                    return False
                continue
            if numbers.get((r, w[1]), a + 1) > a - max(m, f):
                return False
            for p2, s2, u, g in told:
                if (p2, s2) == (r, w[1]) and (p, s, u, max(m, f, g)) not in told:
                    return False
    return True


def plain_holds(promise, begin, again, i):
    """Truth at a step in the words of points 27 to 29, looking at the run step by step."""
    size = len(begin) + 2 * len(again) + 1
    memory = {}

    def mark(at):
        return begin[at] if at < len(begin) else again[(at - len(begin)) % len(again)]

    def match(at):
        repetition = (at - len(begin)) // len(again)
        end = len(begin) if at < len(begin) else len(begin) + (repetition + 1) * len(again)
        deep = 0
        for later in range(at, end):
            deep += {"call": 1, "back": -1}.get(mark(later)[0], 0)
            if deep == 0:
                return later
        return None

    def across(at):
        if mark(at)[0] == "call":
            return match(at)
        return None if mark(at + 1)[0] == "back" else at + 1

    def true(f, at):
        if at >= len(begin):
            at = len(begin) + (at - len(begin)) % len(again)
        if (f, at) not in memory:
            memory[(f, at)] = told(f, at)
        return memory[(f, at)]

    def told(f, at):
        word = f[0]
        if word == "yes":
            return True
        if word == "at":
            return mark(at)[0] == f[1] and f[2] in ("", mark(at)[1])
        if word == "not":
            return not true(f[1], at)
        if word in ("and", "or"):
            return (all if word == "and" else any)([true(f[1], at), true(f[2], at)])
        if word == "next":
            return true(f[1], at + 1)
        if word == "over":
            return across(at) is not None and true(f[1], across(at))
        for _ in range(size):
            if true(f[2], at):
                return True
            if not true(f[1], at):
                return False
            at = at + 1 if word == "until" else across(at)
            if at is None:
                return False
        return False

    return true(promise, i)
