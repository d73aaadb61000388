"""Dangers along the plays of a program, and what two machines both accept (point 44)."""

from calltowers.numbered import places_of
from calltowers.stacks import accepts, settled


class DangerWatch:
    """A journey with what a danger would read of the stack.

    A place is the number of a pair of a head and a node of the danger, from which the symbols below the top one lead
    to a final node. So the danger is read against its edges, while calls put symbols on the stack.
    """

    def __init__(self, danger, journey):
        self.danger = danger
        self.journey = journey
        edges, finals = danger
        self.ways = settled(edges)
        # Nothing leads to the other nodes, so no symbol is read behind which one of them is come to.
        self.nodes = list({target: True for _, _, target in edges})
        self.node_at = places_of(self.nodes)
        final = {node: True for node in finals}
        self.can_rest = [can_end(self.ways, final, node) for node in self.nodes]
        # For each symbol and node the list of the nodes from which a free way along the symbol leads to the node.
        self.before = {}
        for node in self.nodes:
            for symbol, target in self.ways.ways_from(node):
                self.before.setdefault((symbol, self.node_at[target]), []).append(self.node_at[node])

    def place_at(self, head, node):
        """The number of a place."""
        return head * len(self.nodes) + node

    def first_places(self):
        """The list of the places of the first configuration: nothing is below the top symbol."""
        start = self.journey.start
        return [self.place_at(start, node) for node, rests in enumerate(self.can_rest) if rests]

    def place_steps(self):
        """For each place the steps that lead from it."""
        steps = {}
        for head in self.journey.steps:
            for node in range(len(self.nodes)):
                rows = [self.carried(step, node) for step in self.journey.steps[head]]
                steps[self.place_at(head, node)] = [step for row in rows for step in row]
        return steps

    def carried(self, step, node):
        """The list of the steps between places that are made of a step between heads."""
        target, is_raised, index, ending = step
        nodes = [node]
        if is_raised:
            nodes = self.before.get((self.journey.rules[index][3][1], node), [])
        return [(self.place_at(target, near), is_raised, index, ending) for near in nodes]

    def is_reached(self, place):
        """Whether the danger accepts what has the head of a place and leads on from its node."""
        head, node = divmod(place, len(self.nodes))
        p, s = self.journey.pushdown.told_head(head)
        return self.nodes[node] in self.ways.reached(p, s)

    def ends_reached(self):
        """The list of the endings of the whole program whose state the danger accepts with an empty stack."""
        start, states = self.journey.start, self.journey.pushdown.states
        return [(start, way_out) for way_out in self.journey.search.exits[start]
                if accepts(self.danger, (states[way_out >> 1], ()))]


def have_common(first, second, states):
    """Whether two machines both accept a configuration with one of these states."""
    left, right = settled(first[0]), settled(second[0])
    left_ends, right_ends = {node: True for node in first[1]}, {node: True for node in second[1]}
    found = {(state, state): True for state in states}
    waiting = list(found)
    while waiting:
        near, far = waiting.pop()
        if can_end(left, left_ends, near) and can_end(right, right_ends, far):
            return True
        ends = {}
        for symbol, target in right.ways_from(far):
            ends.setdefault(symbol, []).append(target)
        for symbol, target in left.ways_from(near):
            for end in ends.get(symbol, []):
                if (target, end) not in found:
                    found[(target, end)] = True
                    waiting.append((target, end))
    return False


def can_end(ways, finals, node):
    """Whether edges labelled None lead from a node to a final one, or it is final itself."""
    return any([end in finals for end in ways.resting(node)])
