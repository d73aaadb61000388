"""Slow and plain ways to the same answers, straight from the words of the document."""

import heapq
import itertools

from calltowers.order import rank
from calltowers.player import first, step
from calltowers.pushdowns import head_of, rules_of, use


def plain_endings(rules):
    """The endings of point 20, by going over all rules until nothing new comes about."""
    found = set()
    while True:
        more = set()
        for p, s, q, w, m in rules:
            if not w:
                more.add((p, s, q, m))
                continue
            for p1, s1, r, f in found:
                if (p1, s1) != (q, w[0]):
                    continue
                if len(w) == 1:
                    more.add((p, s, r, max(m, f)))
                else:
                    more |= {(p, s, u, max(m, f, g)) for p2, s2, u, g in found if (p2, s2) == (r, w[1])}
        if more <= found:
            return sorted(found, key=rank)
        found |= more


def plain_steps(rules, head):
    """The steps of point 21."""
    found = set()
    ends = plain_endings(rules)
    for p, s, q, w, m in rules:
        if (p, s) == head and w:
            found.add(((q, w[0]), m))
            if len(w) == 2:
                found |= {((r, w[1]), max(m, f)) for p1, s1, r, f in ends if (p1, s1) == (q, w[0])}
    return sorted(found, key=rank)


def plain_graph(rules, head):
    """The steps from each head that is met."""
    graph = {}
    waiting = [head]
    while waiting:
        near = waiting.pop()
        if near not in graph:
            graph[near] = plain_steps(rules, near)
            waiting += [target for target, _ in graph[near]]
    return graph


def plain_met(rules, head):
    return sorted(plain_graph(rules, head), key=rank)


def leads(graph, start):
    """The heads to which at least one step leads from start."""
    found = set()
    waiting = [target for target, _ in graph[start]]
    while waiting:
        near = waiting.pop()
        if near not in found:
            found.add(near)
            waiting += [target for target, _ in graph[near]]
    return found


def has_marked_circle(rules, head):
    """Whether a circle of steps between met heads has a marked one (point 22)."""
    graph = plain_graph(rules, head)
    return any(mark == 1 and near in leads(graph, target) | {target} for near in graph for target, mark in graph[near])


def most_marks(rules, head):
    """For each met head the greatest number of marked steps on a way from it, if no circle is marked."""
    graph = plain_graph(rules, head)
    most = {near: 0 for near in graph}
    changed = True
    while changed:
        changed = False
        for near in graph:
            for target, mark in graph[near]:
                if most[target] + mark > most[near]:
                    most[near] = most[target] + mark
                    changed = True
    return tuple([(near, most[near]) for near in sorted(most, key=rank)])


def least_lengths(rules):
    """For each ending the least number of rules of a play."""
    least = {}
    changed = True
    while changed:
        changed = False
        for p, s, q, w, m in rules:
            offers = [((p, s, q, m), 1)] if not w else []
            for (p1, s1, r, f), size in list(least.items()):
                if not w or (p1, s1) != (q, w[0]):
                    continue
                if len(w) == 1:
                    offers.append(((p, s, r, max(m, f)), 1 + size))
                    continue
                for (p2, s2, u, g), more in list(least.items()):
                    if (p2, s2) == (r, w[1]):
                        offers.append(((p, s, u, max(m, f, g)), 1 + size + more))
            for ending, size in offers:
                if size < least.get(ending, size + 1):
                    least[ending] = size
                    changed = True
    return least


def expanded(parts, items):
    """Items written out, part by part."""
    numbers = []
    for item in items:
        numbers += [item] if item >= 0 else expanded(parts, parts[-1 - item])
    return numbers


def played_down(rules, configuration, numbers):
    """The configuration after a play, and whether no configuration ahead of its end has an empty stack; or None."""
    filled = True
    for number in numbers:
        filled = filled and configuration[1] != ()
        configuration = use(rules[number], configuration)
        if configuration is None:
            return None
    return configuration, filled


def has_right_items(rules, parts, items, before):
    return all(item < len(rules) if item >= 0 else -1 - item < before for item in items)


def plain_takes_round(rules, head, paper):
    """The judge of point 23, by writing everything out."""
    parts, begin, again = paper
    for at, part in enumerate(parts):
        if not part or not has_right_items(rules, parts, part, at):
            return False
        numbers = expanded(parts, part)
        first = rules[numbers[0]]
        after = played_down(rules, (first[0], (first[1],)), numbers)
        if after is None or after[0][1] != () or not after[1]:
            return False
    if not again or not has_right_items(rules, parts, begin + again, len(parts)):
        return False
    after = played_down(rules, (head[0], (head[1],)), expanded(parts, begin))
    if after is None or not after[0][1]:
        return False
    state, stack = after[0]
    numbers = expanded(parts, again)
    behind = played_down(rules, (state, stack[:1]), numbers)
    if behind is None or not behind[1] or not behind[0][1]:
        return False
    return (behind[0][0], behind[0][1][0]) == (state, stack[0]) and any(rules[k][4] == 1 for k in numbers)


def plain_takes_rest(rules, head, paper):
    """The judge of point 24, in its words."""
    told, ranks = paper
    numbers = dict(ranks)
    if len(numbers) != len(ranks) or head not in numbers or min(numbers.values()) < 0:
        return False
    for p, s, q, w, m in rules:
        if (p, s) not in numbers:
            continue
        a = numbers[(p, s)]
        if not w:
            if (p, s, q, m) not in told:
                return False
            continue
        if numbers.get((q, w[0]), a + 1) > a - m:
            return False
        for p1, s1, r, f in told:
            if (p1, s1) != (q, w[0]):
                continue
            if len(w) == 1:
                if (p, s, r, max(m, f)) not in told:
                    return False
                continue
            if numbers.get((r, w[1]), a + 1) > a - max(m, f):
                return False
            for p2, s2, u, g in told:
                if (p2, s2) == (r, w[1]) and (p, s, u, max(m, f, g)) not in told:
                    return False
    return True


def plain_holds(promise, begin, again, i):
    """Truth at a step in the words of points 27 to 29, looking at the run step by step."""
    size = len(begin) + 2 * len(again) + 1
    memory = {}

    def mark(at):
        return begin[at] if at < len(begin) else again[(at - len(begin)) % len(again)]

    def match(at):
        repetition = (at - len(begin)) // len(again)
        end = len(begin) if at < len(begin) else len(begin) + (repetition + 1) * len(again)
        deep = 0
        for later in range(at, end):
            deep += {"call": 1, "back": -1}.get(mark(later)[0], 0)
            if deep == 0:
                return later
        return None

    def across(at):
        if mark(at)[0] == "call":
            return match(at)
        return None if mark(at + 1)[0] == "back" else at + 1

    def true(f, at):
        if at >= len(begin):
            at = len(begin) + (at - len(begin)) % len(again)
        if (f, at) not in memory:
            memory[(f, at)] = told(f, at)
        return memory[(f, at)]

    def told(f, at):
        word = f[0]
        if word == "yes":
            return True
        if word == "at":
            return mark(at)[0] == f[1] and f[2] in ("", mark(at)[1])
        if word == "not":
            return not true(f[1], at)
        if word in ("and", "or"):
            return (all if word == "and" else any)([true(f[1], at), true(f[2], at)])
        if word == "next":
            return true(f[1], at + 1)
        if word == "over":
            return across(at) is not None and true(f[1], across(at))
        for _ in range(size):
            if true(f[2], at):
                return True
            if not true(f[1], at):
                return False
            at = at + 1 if word == "until" else across(at)
            if at is None:
                return False
        return False

    return true(promise, i)


def plain_takes_word(machine, word):
    """Whether a nested machine takes a word (point 35), by keeping all configurations: pairs of a node and a stack."""
    starts, moves, finals = machine
    places = {(node, ()) for node in starts}
    for kind, name in word:
        places = {after for place in places for move in moves if move[0] == kind and move[2] == name
                  for after in after_move(place, move)}
    return any(node in finals for node, _ in places)


def after_move(place, move):
    """The configurations to which a move leads: one or none."""
    node, stack = place
    if move[1] != node:
        return []
    if move[0] == "plain":
        return [(move[3], stack)]
    if move[0] == "call":
        return [(move[3], (move[4],) + stack)]
    if move[3] is None:
        return [(move[4], ())] if not stack else []
    return [(move[4], stack[1:])] if stack and stack[0] == move[3] else []


def nested_words(words, most):
    """All nested words made of these words with up to so many letters, in the order of point 36."""
    letters = sorted((kind, word) for kind in ("call", "back", "plain") for word in words)
    for size in range(most + 1):
        yield from itertools.product(letters, repeat=size)


def all_plays(told, most):
    """The configurations of a program: for each of them the steps (rule, configuration); None if too many."""
    rules = rules_of(told)
    state, symbol = head_of(told)
    by_head = {}
    for number, rule in enumerate(rules):
        by_head.setdefault(rule[:2], []).append(number)
    steps, waiting = {}, [(state, (symbol,))]
    for near in waiting:
        if near in steps:
            continue
        numbers = by_head.get((near[0], near[1][0]), []) if near[1] else []
        steps[near] = [(number, use(rules[number], near)) for number in numbers]
        waiting += [after for _, after in steps[near] if after not in steps]
        if len(steps) > most:
            return None
    return steps


def least_costs(steps, start, nothing, more):
    """For each configuration, and for each rule, the least cost of a play to it or with it at its end (Dijkstra)."""
    best, at_end, done = {start: nothing}, {}, set()
    # Each entry has a number of its own, so that configurations are never compared.
    numbers = itertools.count()
    queue = [(nothing, next(numbers), start)]
    while queue:
        cost, _, near = heapq.heappop(queue)
        if near in done:
            continue
        done.add(near)
        for number, after in steps[near]:
            total = more(cost, number, after)
            if number not in at_end or total < at_end[number]:
                at_end[number] = total
            if after not in best or total < best[after]:
                best[after] = total
                heapq.heappush(queue, (total, next(numbers), after))
    return best, at_end


def longest_run(steps, start):
    """The greatest number of steps from a configuration; None if it is without end."""
    most, open_ones, waiting = {}, set(), [(start, False)]
    while waiting:
        near, is_left = waiting.pop()
        if is_left:
            open_ones.discard(near)
            most[near] = max([1 + most[after] for _, after in steps[near]], default=0)
        elif near in open_ones:
            return None
        elif near not in most:
            open_ones.add(near)
            waiting.append((near, True))
            waiting += [(after, False) for _, after in steps[near] if after not in most]
    return most[start]


def letter_of(mark):
    """The letter of point 49."""
    kind, name = mark
    return {"say": ("plain", name), "quiet": ("plain", "quiet")}.get(kind, (kind, name))


def trace_levels(told, most, limit=2000):
    """The sets of the traces of 0 letters, 1, 2 and so on, up to most or until there are too many."""
    level = {(): {first(told)}}
    levels = [set(level)]
    while len(levels) <= most and len(level) <= limit:
        after = {}
        for word, places in level.items():
            for place in places:
                for choice in (0, 1) if place[2] else ():
                    behind, mark = step(told, place, choice)
                    after.setdefault(word + (letter_of(mark),), set()).add(behind)
        level = after
        levels.append(set(level))
    return levels
