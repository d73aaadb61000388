"""Where stacks lead in machines, and in two tables at once: views from which tables are built (point 42)."""

from calltowers.numbered import places_of
from calltowers.numbersets import members, set_of
from calltowers.stacks import settled


class Subsets:
    """The sets of nodes to which a machine can come along symbols; a set is a number, as in numbersets."""

    def __init__(self, machine, states, symbols):
        edges, finals = machine
        self.symbols = symbols
        nodes = {node: True for edge in edges for node in (edge[0], edge[2])}
        nodes.update({node: True for node in list(finals) + list(states)})
        self.node_at = places_of(nodes)
        ways = settled(edges)
        final = {node: True for node in finals}
        self.finals = set_of([at for at, node in enumerate(nodes) if any([end in final for end in ways.resting(node)])])
        # For each node the sets to which its free ways lead, by their symbols.
        self.targets = [self.ends_by_symbol(ways.ways_from(node)) for node in nodes]

    def ends_by_symbol(self, pairs):
        """For each symbol the set of the nodes that stand beside it."""
        found = {}
        for symbol, node in pairs:
            found[symbol] = found.get(symbol, 0) | 1 << self.node_at[node]
        return found

    def start_of(self, state):
        """The set with which the ways of a state begin."""
        return 1 << self.node_at[state]

    def row_of(self, nodes):
        """The list of the sets to which the symbols lead from a set, in order."""
        found = {}
        for node in members(nodes):
            for symbol, ends in self.targets[node].items():
                found[symbol] = found.get(symbol, 0) | ends
        return [found.get(symbol, 0) for symbol in self.symbols]

    def is_final(self, nodes):
        """Whether stacks that lead to a set are accepted."""
        return nodes & self.finals != 0


class Both:
    """The pairs of nodes to which stacks lead in two tables; final are those with a wanted one of the sums of
    1, if the node of the first table is final, and 2, if that of the second one is."""

    def __init__(self, first, second, wanted):
        self.first = first
        self.second = second
        self.wanted = wanted
        self.firsts = {node: True for node in first[4]}
        self.seconds = {node: True for node in second[4]}

    def first_pairs(self):
        """The list of the pairs of the states, in order."""
        return list(zip(self.first[2], self.second[2]))

    def row_of(self, pair):
        """The list of the pairs to which the symbols lead from a pair, in order."""
        left, right = pair
        return list(zip(self.first[3][left], self.second[3][right]))

    def is_final(self, pair):
        """Whether stacks that lead to a pair are wanted."""
        left, right = pair
        return (1 if left in self.firsts else 0) + (2 if right in self.seconds else 0) in self.wanted
