"""Nodes and symbols of nested machines behind which the same can come, put together (points 36 and 50)."""

from calltowers.nestmoves import Moves


def merged(machine):
    """A machine that takes the same words, in which nodes and symbols that are alike are one."""
    return Alike(Moves(machine)).machine()


class Alike:
    """The classes of the nodes and symbols of a machine, told by its moves, that are alike.

    Nodes are alike if both are final or both are not, and their moves lead to nodes, and put on symbols, that are
    alike; symbols are alike if all moves that take them lead to nodes that are alike.
    """

    def __init__(self, moves):
        self.moves = moves
        self.nodes = [1 if node in moves.finals else 0 for node in range(len(moves.nodes))]
        self.symbols = [0 for _ in moves.symbols]
        many = 0
        # Classes are only ever divided, so they are complete when none has become more.
        while many < len(set(self.nodes)) + len(set(self.symbols)):
            many = len(set(self.nodes)) + len(set(self.symbols))
            self.divide()

    def divide(self):
        """Divides the classes by what the moves lead to."""
        nodes = [[] for _ in self.nodes]
        symbols = [[] for _ in self.symbols]
        for node in self.moves.plains:
            for word, target in self.moves.plains[node]:
                nodes[node].append((0, word, self.nodes[target]))
        for node in self.moves.calls:
            for word, target, symbol in self.moves.calls[node]:
                nodes[node].append((1, word, self.nodes[target], self.symbols[symbol]))
        for node, symbol in self.moves.backs:
            for word, target in self.moves.backs[(node, symbol)]:
                nodes[node].append((2, word, -1 if symbol is None else symbol, self.nodes[target]))
                if symbol is not None:
                    symbols[symbol].append((node, word, self.nodes[target]))
        self.nodes = divided(self.nodes, nodes)
        self.symbols = divided(self.symbols, symbols)

    def machine(self):
        """The machine of the classes."""
        starts, moves, finals = self.moves.told(0, 0)
        rows = {self.move_between(move): True for move in moves}
        return (self.classes_of(starts), tuple(rows), self.classes_of(finals))

    def classes_of(self, nodes):
        """The classes of nodes, each once."""
        return tuple(sorted({self.nodes[node] for node in nodes}))

    def move_between(self, move):
        """The move between classes that is made of a move."""
        kind, node, word = move[:3]
        start = self.nodes[node]
        if kind == "plain":
            return (kind, start, word, self.nodes[move[3]])
        if kind == "call":
            return (kind, start, word, self.nodes[move[3]], self.symbols[move[4]])
        return (kind, start, word, None if move[3] is None else self.symbols[move[3]], self.nodes[move[4]])


def divided(classes, rows):
    """The numbers of smaller classes: things stay together if their rows, in any order, are the same, too."""
    numbers = {}
    found = []
    for own, row in zip(classes, rows):
        key = (own, tuple(sorted(set(row))))
        found.append(numbers.setdefault(key, len(numbers)))
    return found
