"""Nodes and symbols of nested machines behind which the same can come, put together (points 36 and 50)."""

from calltowers.nestmoves import Moves
from calltowers.partition import Partition

PLAIN = 0
CALL = 1
BACK = 2
NO_SYMBOL = -1


def merged(machine):
    """A machine that takes the same words, in which nodes and symbols that are alike are one."""
    return Alike(Moves(machine)).machine()


class Alike:
    """The classes of the nodes and symbols of a machine, told by its moves, that are alike.

    Nodes are alike if both are final or both are not, and their moves lead to nodes, and put on symbols, that are
    alike; symbols are alike if all moves that take them lead to nodes that are alike.
    """

    def __init__(self, moves):
        self.moves = moves
        # The symbols stand behind the nodes.
        self.width = len(moves.nodes)
        first_classes = [1 if node in moves.finals else 0 for node in range(self.width)] + [2 for _ in moves.symbols]
        self.classes = Partition(self.all_rows(), first_classes).classes

    def all_rows(self):
        """For each node and symbol what the moves from a node do, or what the moves do that take a symbol."""
        rows = [[] for _ in self.moves.nodes + self.moves.symbols]
        for node in self.moves.plains:
            for word, target in self.moves.plains[node]:
                rows[node].append(((PLAIN, word), (target,)))
        for node in self.moves.calls:
            for word, target, symbol in self.moves.calls[node]:
                rows[node].append(((CALL, word), (target, self.width + symbol)))
        for node, symbol in self.moves.backs:
            for word, target in self.moves.backs[(node, symbol)]:
                rows[node].append(((BACK, word, NO_SYMBOL if symbol is None else symbol), (target,)))
                if symbol is not None:
                    rows[self.width + symbol].append(((node, word), (target,)))
        return rows

    def machine(self):
        """The machine of the classes."""
        starts, moves, finals = self.moves.shifted(0, 0)
        different = {self.move_between(move): True for move in moves}
        return (self.classes_of(starts), tuple(different), self.classes_of(finals))

    def classes_of(self, nodes):
        """The classes of nodes, each once."""
        return tuple(sorted({self.classes[node] for node in nodes}))

    def symbol_class(self, symbol):
        """The class of a symbol; None for None."""
        return None if symbol is None else self.classes[self.width + symbol]

    def move_between(self, move):
        """The move between classes that is made of a move."""
        kind, node, word = move[:3]
        start = self.classes[node]
        if kind == "plain":
            return (kind, start, word, self.classes[move[3]])
        if kind == "call":
            return (kind, start, word, self.classes[move[3]], self.symbol_class(move[4]))
        return (kind, start, word, self.symbol_class(move[3]), self.classes[move[4]])
