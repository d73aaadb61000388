"""Sets of stacks: machines, their predecessors and successors, and the judges of both (points 15 to 19)."""

from calltowers.order import rank
from calltowers.ways import Ways


def accepts(machine, configuration):
    """Whether a machine accepts a configuration."""
    edges, finals = machine
    p, stack = configuration
    ways = settled(edges)
    is_final = {node: True for node in finals}
    return any([end in is_final for node in ways.along(p, stack) for end in ways.resting(node)])


def is_plain(rules, machine):
    """Whether no edge of a machine leads to a state of the rules."""
    states = {state: True for p, _, q, _, _ in rules for state in (p, q)}
    return not any([target in states for _, _, target in machine[0]])


def takes_backwards(rules, machine):
    """Whether a machine is closed backwards under rules."""
    ways = settled(machine[0])
    return all([(p, s, n) in ways.edges for p, s, q, w, _ in rules for n in ways.along(q, w)])


def takes_forwards(rules, machine):
    """Whether a machine is closed forwards under rules."""
    ways = settled(machine[0])
    return all([leads_on(ways, rule) for rule in rules])


def leads_on(ways, rule):
    """Whether a step by this rule leads from what is accepted to what is accepted."""
    p, s, q, w, _ = rule
    starts = ways.reached(p, s)
    if not starts:
        return True
    ends = {node: True for node in (ways.along(q, w) if w else ways.resting(q))}
    return all([n in ends for n in starts])


def settled(edges):
    """The edges with all their free ways."""
    ways = Ways(edges)
    ways.settle()
    return ways


def told(ways, finals):
    """The machine with these edges and finals, in order and each once."""
    return (tuple(in_order(ways.edges)), tuple(sorted({node: True for node in finals}, key=rank)))


def in_order(edges):
    """The list of the edges in ascending order."""
    # Few nodes have many edges: so each node is ranked once, and not once for each edge.
    things = {thing: True for edge in edges for thing in edge}
    places = {thing: at for at, thing in enumerate(sorted(things, key=rank))}
    return sorted(edges, key=lambda edge: (places[edge[0]], places[edge[1]], places[edge[2]]))


def predecessors(rules, machine):
    """The machine of the configurations from which a play leads to one that a plain machine accepts."""
    edges, finals = machine
    search = Backwards(rules, edges)
    search.run()
    return told(search.ways, finals)


class Backwards:
    """The search for the least edges that are closed backwards."""

    def __init__(self, rules, edges):
        self.ways = Ways(edges)
        # For the state behind a rule and the first symbol of its w: its head and the rest of w.
        self.rules = {}
        # For a node and a second symbol of a w: the heads whose rules lead to the node along the first one.
        self.halves = {}
        for p, s, q, w, _ in rules:
            if w:
                self.rules.setdefault((q, w[0]), {})[(p, s, w[1:])] = True
            else:
                self.ways.add_edge(p, s, q)

    def run(self):
        """Adds edges as long as there are free ways that ask for them."""
        while self.ways.fresh:
            node, symbol, target = self.ways.take()
            for p, s, rest in self.rules.get((node, symbol), {}):
                if rest:
                    self.add_half(target, rest[0], p, s)
                else:
                    self.ways.add_edge(p, s, target)
            for p, s in list(self.halves.get((node, symbol), {})):
                self.ways.add_edge(p, s, target)

    def add_half(self, node, symbol, p, s):
        """A rule with the head (p, s) leads to the node, and needs this symbol yet."""
        heads = self.halves.setdefault((node, symbol), {})
        if (p, s) not in heads:
            heads[(p, s)] = True
            for end in self.ways.reached(node, symbol):
                self.ways.add_edge(p, s, end)


def successors(rules, machine):
    """The machine of the configurations to which a play leads from one that a plain machine accepts."""
    edges, finals = machine
    ways = Ways(edges)
    by_head = {}
    for p, s, q, w, _ in rules:
        by_head.setdefault((p, s), {})[(q, w)] = True
    while ways.fresh:
        p, s, n = ways.take()
        for q, w in by_head.get((p, s), {}):
            add_step(ways, q, w, n)
    return told(ways, finals)


def add_step(ways, q, w, n):
    """Adds the edges by which a free way leads from q along w to n."""
    if not w:
        ways.add_edge(q, None, n)
    elif len(w) == 1:
        ways.add_edge(q, w[0], n)
    else:
        middle = ("mid", q, w[0])
        ways.add_edge(q, w[0], middle)
        ways.add_edge(middle, w[1], n)
