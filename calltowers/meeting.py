"""The meet of two nested machines (point 36)."""

from calltowers.numbered import Numbering


class Meeting:
    """The pairs of nodes to which two machines, told by their moves, can come by the same letters.

    Backs are told only for the pairs of symbols that calls put on both stacks at once.
    """

    def __init__(self, first, second):
        self.first = first
        self.second = second
        self.pairs = Numbering()
        self.symbols = Numbering()
        self.moves = []
        # How many of the pairs have all their backs by the symbols that have come about.
        self.done = 0
        self.starts = tuple([self.pairs.place_of((left, right)) for left in first.starts for right in second.starts])
        while self.done < len(self.pairs.things):
            self.add_moves(self.done)

    def add_moves(self, node):
        """Adds the moves from the pair with this number."""
        left, right = self.pairs.things[node]
        for near, far in same_words(self.first.plains.get(left, []), self.second.plains.get(right, [])):
            self.moves.append(("plain", node, near[0], self.pairs.place_of((near[1], far[1]))))
        for near, far in same_words(self.first.calls.get(left, []), self.second.calls.get(right, [])):
            symbol = self.symbol_of((near[2], far[2]))
            self.moves.append(("call", node, near[0], self.pairs.place_of((near[1], far[1])), symbol))
        self.add_backs(node, None)
        for symbol in range(len(self.symbols.things)):
            self.add_backs(node, symbol)
        self.done += 1

    def symbol_of(self, pair):
        """The number of a pair of symbols; if it is a new one, the pairs that are done get their backs by it."""
        many = len(self.symbols.things)
        symbol = self.symbols.place_of(pair)
        if symbol == many:
            for node in range(self.done):
                self.add_backs(node, symbol)
        return symbol

    def add_backs(self, node, symbol):
        """Adds the backs from a pair that take a pair of symbols, or find both stacks empty (None)."""
        left, right = self.pairs.things[node]
        taken, other = (None, None) if symbol is None else self.symbols.things[symbol]
        for near, far in same_words(self.first.backs.get((left, taken), []), self.second.backs.get((right, other), [])):
            self.moves.append(("back", node, near[0], symbol, self.pairs.place_of((near[1], far[1]))))

    def machine(self):
        """The machine of these pairs."""
        finals = [node for node, (left, right) in enumerate(self.pairs.things)
                  if left in self.first.finals and right in self.second.finals]
        return (self.starts, tuple(self.moves), tuple(finals))


def same_words(lefts, rights):
    """The list of the pairs of rows, one of each list, that begin with the same word."""
    return [(near, far) for near in lefts for far in rights if near[0] == far[0]]
