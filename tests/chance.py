"""Pushdowns, programs and promises that are made by chance, always the same ones for the same seed."""

import random

from calltowers.pushdowns import head_of, rules_of


def chance(seed):
    return random.Random(seed)


def some_pushdown(rng):
    """A small marked pushdown and a head, of which it need not speak."""
    states = [(at,) if at % 2 else at for at in range(rng.randint(1, 3))]
    symbols = ["a", "b", ("c", None), 7][:rng.randint(1, 4)]
    rules = []
    for _ in range(rng.randint(0, 9)):
        w = tuple(rng.choice(symbols) for _ in range(rng.choice([0, 1, 1, 2])))
        rules.append((rng.choice(states), rng.choice(symbols), rng.choice(states), w, rng.choice([0, 0, 1])))
    return tuple(rules), (rng.choice(states), rng.choice(symbols))


def some_expression(rng, names, depth):
    if depth == 0 or rng.random() < 0.5:
        return ("var", rng.choice(names)) if names and rng.random() < 0.8 else ("flag", rng.randint(0, 1))
    if rng.random() < 0.4:
        return ("not", some_expression(rng, names, depth - 1))
    parts = [some_expression(rng, names, depth - 1) for _ in range(2)]
    return (rng.choice(["and", "or", "same"]), *parts)


def some_body(rng, names, procs, depth, most):
    body = []
    for _ in range(rng.randint(0 if depth < 2 else 1, most)):
        luck = rng.random()
        if luck < 0.12 and names:
            body.append(("set", rng.choice(names), some_expression(rng, names, 1)))
        elif luck < 0.25 and names:
            body.append(("pick", rng.choice(names)))
        elif luck < 0.45 or depth == 0 and luck >= 0.73:
            body.append(("say", rng.choice(["a", "b", "c"])))
        elif luck < 0.68 and procs:
            proc = rng.choice(list(procs))
            args = tuple(some_expression(rng, names, 1) for _ in range(procs[proc]))
            body.append(("call", proc, args, rng.choice(list(names) + [""])))
        elif luck < 0.73:
            body.append(("back", some_expression(rng, names, 1)))
        else:
            body.append(some_branches(rng, names, procs, depth - 1))
    return tuple(body)


def some_branches(rng, names, procs, depth):
    bodies = [some_body(rng, names, procs, depth, 2) for _ in range(2)]
    e = some_expression(rng, names, 1)
    return rng.choice([("if", e, *bodies), ("while", e, bodies[0]), ("while", ("flag", 1), bodies[0]),
                       ("either", *bodies)])


def some_program(rng, is_bounded=False):
    """A small program; if it is bounded, its procedures call only those behind them, else any."""
    shared = ("g",)[:rng.randint(0, 1)]
    procs = {"main": 0}
    for proc in ("p", "q", "r")[:rng.randint(1, 3) if is_bounded else rng.randint(0, 2)]:
        procs[proc] = rng.randint(0, 1)
    table = {}
    for at, proc in enumerate(procs):
        params, own = ("x",)[:procs[proc]], ("y",)[:rng.randint(0, 1)]
        called = dict(list(procs.items())[at + 1:]) if is_bounded else procs
        table[proc] = (params, own, some_body(rng, shared + params + own, called, 2, 3))
    return {"globals": shared, "procs": table}


def some_promise(rng, depth):
    """A promise that is nested at most so deep."""
    if depth == 1 or rng.random() < 0.1:
        return some_word(rng)
    f, g = some_promise(rng, depth - 1), some_promise(rng, depth - 1)
    always = ("not", (rng.choice(["until", "across"]), ("yes",), ("not", f)))
    return rng.choice([
        ("not", f), ("and", f, g), ("or", f, g), ("next", f), ("until", f, g), ("over", f), ("across", f, g),
        always, ("until", ("yes",), f), ("across", ("yes",), f),
    ])


def some_word(rng):
    kind = rng.choice(["call", "back", "say", "quiet"])
    names = {"call": ["", "p", "q"], "back": ["", "p", "q"], "say": ["", "a", "b"], "quiet": [""]}[kind]
    return rng.choice([("yes",), ("at", kind, rng.choice(names)), ("at", kind, rng.choice(names))])


def some_rounds(rng, program, tries=10, size=30):
    """Runs of a program that are played by chance: pairs of numbers of rules, (begin, round)."""
    rules = rules_of(program)
    choices = {}
    for number, rule in enumerate(rules):
        choices.setdefault(rule[:2], []).append(number)
    found = []
    for _ in range(tries):
        state, symbol = head_of(program)
        tower, numbers, places = [symbol], [], [(state, 1, symbol)]
        while tower and len(numbers) < size:
            number = rng.choice(choices[(state, tower.pop())])
            state = rules[number][2]
            tower.extend(rules[number][3][::-1])
            numbers.append(number)
            places.append((state, len(tower), tower[-1] if tower else None))
        rounds = rounds_in(numbers, places)
        found += rng.sample(rounds, min(4, len(rounds)))
    return found


def rounds_in(numbers, places):
    """The rounds that a play has gone through, and what it begins with."""
    found = []
    for start, (state, height, top) in enumerate(places):
        for end in range(start + 1, len(places)):
            if places[end][1] < height:
                break
            if (places[end][0], places[end][2]) == (state, top):
                found.append((tuple(numbers[:start]), tuple(numbers[start:end])))
    return found


def some_nested_machine(rng, words, most_nodes=5, most_moves=16):
    """A nested machine with few nodes and symbols, which are the same numbers in each such machine."""
    nodes = [7 * at - 3 for at in range(rng.randint(1, most_nodes))]
    symbols = list(range(rng.randint(1, 3)))
    moves = []
    for _ in range(rng.randint(0, most_moves)):
        start, word, target = rng.choice(nodes), rng.choice(words), rng.choice(nodes)
        moves.append(rng.choice([
            ("plain", start, word, target),
            ("call", start, word, target, rng.choice(symbols)), ("call", start, word, target, rng.choice(symbols)),
            ("back", start, word, rng.choice(symbols), target), ("back", start, word, rng.choice(symbols + [None]), target),
        ]))
    starts, finals = [rng.sample(nodes, min(len(nodes), rng.choice([0, 1, 1, 1, 2]))) for _ in range(2)]
    return tuple(starts), tuple(moves), tuple(finals)


def some_stack_machine(rng, states, symbols):
    """A machine for stacks, also with edges labelled None and with a symbol that is not among these."""
    nodes = ["x", "y", ("z", 1), 5, 6][:rng.randint(1, 5)]
    edges = []
    for _ in range(rng.randint(0, 14)):
        start = rng.choice(nodes + list(states))
        edges.append((start, rng.choice(list(symbols) + [None, "other"]), rng.choice(nodes)))
    finals = rng.sample(nodes, rng.randint(0, min(2, len(nodes))))
    if states and rng.random() < 0.3:
        finals.append(rng.choice(states))
    return tuple(edges), tuple(finals)


def some_danger(rng, rules):
    """A danger for a program with these rules."""
    states = list({state: True for p, _, q, _, _ in rules for state in (p, q)})
    symbols = list({symbol: True for _, s, _, w, _ in rules for symbol in (s,) + w})
    nodes = ["x", "y", ("z", 1), 5][:rng.randint(1, 4)]
    edges = [(rng.choice(nodes), rng.choice(symbols + [None]), rng.choice(nodes)) for _ in range(rng.randint(0, 6))]
    state = rng.choice(states)
    edges += [(state, symbol, rng.choice(nodes)) for symbol in symbols + [None] if rng.random() < 0.5]
    edges += [(rng.choice(states), rng.choice(symbols + [None]), rng.choice(nodes)) for _ in range(rng.randint(0, 3))]
    if rng.random() < 0.4:
        edges += [(nodes[0], symbol, nodes[0]) for symbol in symbols]
    finals = rng.sample(nodes, rng.randint(0, len(nodes)))
    if rng.random() < 0.2:
        finals.append(rng.choice(states))
    return tuple(edges), tuple(finals)


def changed(rng, told):
    """A program in which one statement of one procedure is left out, or one is put in."""
    procs = dict(told["procs"])
    name = rng.choice(list(procs))
    params, own, body = procs[name]
    at = rng.randint(0, len(body))
    more = rng.choice([(("say", "a"),), (("say", "b"),), (("either", (), (("say", "c"),)),)])
    procs[name] = (params, own, body[:at] + body[at + 1:] if rng.random() < 0.6 else body[:at] + more + body[at:])
    return {"globals": told["globals"], "procs": procs}
