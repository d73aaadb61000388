"""The meet of two nested machines (point 36)."""


class Meeting:
    """The pairs of nodes to which two machines, told by their moves, can come by the same letters."""

    def __init__(self, first, second):
        self.first = first
        self.second = second
        # For each pair its number, the pairs whose moves have not been told yet, and the moves.
        self.found = {}
        self.waiting = []
        self.moves = []
        self.starts = tuple([self.number_at(left, right) for left in first.starts for right in second.starts])
        while self.waiting:
            self.add_moves(self.waiting.pop())

    def number_at(self, left, right):
        """The number of a pair of nodes; it waits for its moves if it is a new one."""
        if (left, right) not in self.found:
            self.found[(left, right)] = len(self.found)
            self.waiting.append((left, right))
        return self.found[(left, right)]

    def add_moves(self, pair):
        """Adds the moves from a pair."""
        node = self.found[pair]
        left, right = pair
        for near, far in same_words(self.first.plains.get(left, []), self.second.plains.get(right, [])):
            self.moves.append(("plain", node, near[0], self.number_at(near[1], far[1])))
        for near, far in same_words(self.first.calls.get(left, []), self.second.calls.get(right, [])):
            self.moves.append(("call", node, near[0], self.number_at(near[1], far[1]), self.symbol_of(near[2], far[2])))
        for symbol in self.first.leaving.get(left, {}):
            for other in self.second.leaving.get(right, {}):
                # The stack is empty for both machines or for none of them.
                if (symbol is None) == (other is None):
                    self.add_backs(pair, symbol, other)

    def add_backs(self, pair, symbol, other):
        """Adds the backs from a pair that take these symbols, or find the stack empty."""
        left, right = pair
        taken = None if symbol is None else self.symbol_of(symbol, other)
        for near, far in same_words(self.first.backs[(left, symbol)], self.second.backs[(right, other)]):
            self.moves.append(("back", self.found[pair], near[0], taken, self.number_at(near[1], far[1])))

    def symbol_of(self, symbol, other):
        """The number of a pair of symbols."""
        return symbol * len(self.second.symbols) + other

    def machine(self):
        """The machine of these pairs."""
        finals = [self.found[(left, right)] for left, right in self.found
                  if left in self.first.finals and right in self.second.finals]
        return (self.starts, tuple(self.moves), tuple(finals))


def same_words(lefts, rights):
    """The list of the pairs of rows, one of each list, that begin with the same word."""
    return [(near, far) for near in lefts for far in rights if near[0] == far[0]]
