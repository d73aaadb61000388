"""The moves of a nested machine, by the nodes from which they lead (point 35)."""

from calltowers.numbered import in_order, places_of


class Moves:
    """A nested machine whose nodes and symbols are numbers from 0 on; each move stands once."""

    def __init__(self, machine):
        starts, moves, finals = machine
        ends = [node for move in moves for node in nodes_of(move)]
        self.nodes = in_order(list(starts) + list(finals) + ends)
        self.symbols = in_order([move[4] for move in moves if move[0] == "call"])
        self.node_at = places_of(self.nodes)
        self.symbol_at = places_of(self.symbols)
        self.starts = sorted({self.node_at[node] for node in starts})
        self.finals = {self.node_at[node]: True for node in finals}
        # For each node its moves: (word, node) or (word, node, symbol); for each node and symbol, or None where
        # the stack is empty, those that take it: (word, node).
        self.plains = {}
        self.calls = {}
        self.backs = {}
        # For each node with backs the symbols that they take, and None if they find the stack empty.
        self.leaving = {}
        for move in {move: True for move in moves}:
            self.add_move(move)

    def add_move(self, move):
        """Keeps a move."""
        kind, node, word = move[:3]
        start = self.node_at[node]
        if kind == "plain":
            self.plains.setdefault(start, []).append((word, self.node_at[move[3]]))
        elif kind == "call":
            row = (word, self.node_at[move[3]], self.symbol_at[move[4]])
            self.calls.setdefault(start, []).append(row)
        elif move[3] is None or move[3] in self.symbol_at:
            # What no call puts on the stack is never taken from it.
            symbol = None if move[3] is None else self.symbol_at[move[3]]
            self.backs.setdefault((start, symbol), []).append((word, self.node_at[move[4]]))
            self.leaving.setdefault(start, {})[symbol] = True

    def shifted(self, more_nodes, more_symbols):
        """The machine with these moves, its nodes and symbols being greater by so much."""
        moves = [("plain", node + more_nodes, word, target + more_nodes)
                 for node in self.plains for word, target in self.plains[node]]
        moves += [("call", node + more_nodes, word, target + more_nodes, symbol + more_symbols)
                  for node in self.calls for word, target, symbol in self.calls[node]]
        for node, symbol in self.backs:
            taken = None if symbol is None else symbol + more_symbols
            moves += [("back", node + more_nodes, word, taken, target + more_nodes)
                      for word, target in self.backs[(node, symbol)]]
        return (tuple([node + more_nodes for node in self.starts]), tuple(moves),
                tuple([node + more_nodes for node in sorted(self.finals)]))


def nodes_of(move):
    """The two nodes of a move."""
    return (move[1], move[4] if move[0] == "back" else move[3])


def limited(machine, words):
    """The machine with only its moves with these words."""
    starts, moves, finals = machine
    return (starts, tuple([move for move in moves if move[2] in words]), finals)
