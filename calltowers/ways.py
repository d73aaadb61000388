"""The free ways of a machine along single symbols, kept while edges are added to it (point 16)."""


class Ways:
    """The edges of a machine, and its free ways along one symbol: (node, symbol, node)."""

    def __init__(self, edges):
        self.edges = {}
        # For each node the symbols, and for each of these the nodes to which a free way leads.
        self.targets = {}
        # For each node the nodes from which an edge labelled None leads to it, and those to which one leads.
        self.before = {}
        self.behind = {}
        # The free ways that nobody has taken yet.
        self.fresh = []
        for node, symbol, target in edges:
            self.add_edge(node, symbol, target)

    def add_edge(self, node, symbol, target):
        """Adds an edge, and the free ways that begin with it."""
        if (node, symbol, target) in self.edges:
            return
        self.edges[(node, symbol, target)] = True
        if symbol is not None:
            self.add_way(node, symbol, target)
            return
        self.before.setdefault(target, []).append(node)
        self.behind.setdefault(node, []).append(target)
        for word, end in self.ways_from(target):
            self.add_way(node, word, end)

    def add_way(self, node, symbol, target):
        """Adds a free way, if it is a new one."""
        ends = self.targets.setdefault(node, {}).setdefault(symbol, {})
        if target not in ends:
            ends[target] = True
            self.fresh.append((node, symbol, target))

    def take(self):
        """One of the fresh free ways, which becomes a longer one for each edge labelled None that leads to it."""
        node, symbol, target = self.fresh.pop()
        for start in self.before.get(node, []):
            self.add_way(start, symbol, target)
        return (node, symbol, target)

    def settle(self):
        """Finds all free ways that the edges give."""
        while self.fresh:
            self.take()

    def ways_from(self, node):
        """The list of the pairs (symbol, node) of the free ways from a node."""
        ends = self.targets.get(node, {})
        return [(symbol, target) for symbol in ends for target in ends[symbol]]

    def reached(self, node, symbol):
        """The list of the nodes to which a free way along one symbol leads."""
        return list(self.targets.get(node, {}).get(symbol, {}))

    def along(self, node, symbols):
        """The list of the nodes to which a free way along symbols leads."""
        nodes = {node: True}
        for symbol in symbols:
            nodes = {target: True for near in nodes for target in self.reached(near, symbol)}
        return list(nodes)

    def resting(self, node):
        """The list of the nodes to which edges labelled None lead from a node, itself included."""
        found = {node: True}
        waiting = [node]
        while waiting:
            for target in self.behind.get(waiting.pop(), []):
                if target not in found:
                    found[target] = True
                    waiting.append(target)
        return list(found)
