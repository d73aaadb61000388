"""Views of nested machines in which words can be searched: what letters lead to from each node (point 36)."""

from calltowers.numbered import Numbering


class Taken:
    """The words that a machine takes, told by its moves."""

    def __init__(self, moves):
        self.moves = moves
        self.starts = moves.starts

    def is_final(self, node):
        """Whether a word that leads to this node is one of those that are searched."""
        return node in self.moves.finals

    def plains_from(self, node):
        """The list of what plain letters lead to: (letter, node)."""
        return [(("plain", word), target) for word, target in self.moves.plains.get(node, [])]

    def calls_from(self, node):
        """The list of what calls lead to: (letter, node, symbol)."""
        return [(("call", word), target, symbol) for word, target, symbol in self.moves.calls.get(node, [])]

    def backs_from(self, node, symbol):
        """The list of what backs lead to, by a symbol or an empty stack (None): (letter, node)."""
        return [(("back", word), target) for word, target in self.moves.backs.get((node, symbol), [])]

    def has_backs(self, node):
        """Whether some back may lead on from a node."""
        return node in self.moves.leaving


class Missed:
    """The words that a machine takes, told by its moves, and another one, told by its relations, does not."""

    def __init__(self, moves, relations):
        self.moves = moves
        self.relations = relations
        self.width = len(moves.nodes)
        self.starts = [self.node_of(node, relations.start) for node in moves.starts]

    def node_of(self, node, relation):
        """The number of a pair of a node and a relation."""
        return relation * self.width + node

    def is_final(self, node):
        """Whether a word that leads to this node is one of those that are searched."""
        relation, own = divmod(node, self.width)
        return own in self.moves.finals and not self.relations.is_final(relation)

    def plains_from(self, node):
        """The list of what plain letters lead to: (letter, node)."""
        relation, own = divmod(node, self.width)
        return [(("plain", word), self.node_of(target, self.relations.plain(relation, word)))
                for word, target in self.moves.plains.get(own, [])]

    def calls_from(self, node):
        """The list of what calls lead to: (letter, node, symbol)."""
        relation, own = divmod(node, self.width)
        rows = []
        for word, target, symbol in self.moves.calls.get(own, []):
            known, waiting = self.relations.call(relation, word)
            rows.append((("call", word), self.node_of(target, known), (symbol, waiting)))
        return rows

    def backs_from(self, node, symbol):
        """The list of what backs lead to, by a symbol or an empty stack (None): (letter, node)."""
        relation, own = divmod(node, self.width)
        taken, waiting = (None, None) if symbol is None else symbol
        return [(("back", word), self.node_of(target, self.relations.back(relation, word, waiting)))
                for word, target in self.moves.backs.get((own, taken), [])]

    def has_backs(self, node):
        """Whether some back may lead on from a node."""
        _, own = divmod(node, self.width)
        return own in self.moves.leaving


class Apart:
    """The words that exactly one of two machines takes, both told by their relations."""

    def __init__(self, first, second):
        self.first = first
        self.second = second
        self.pairs = Numbering()
        self.starts = [self.pairs.place_of((first.start, second.start))]

    def is_final(self, node):
        """Whether a word that leads to this node is one of those that are searched."""
        left, right = self.pairs.things[node]
        return self.first.is_final(left) != self.second.is_final(right)

    def plains_from(self, node):
        """The list of what plain letters lead to: (letter, node)."""
        left, right = self.pairs.things[node]
        lefts, rights = self.first.plains_from(left), self.second.plains_from(right)
        words = {**lefts, **rights}
        return [(("plain", word), self.pairs.place_of((self.first.plain(left, word), self.second.plain(right, word))))
                for word in words]

    def calls_from(self, node):
        """The list of what calls lead to: (letter, node, symbol)."""
        left, right = self.pairs.things[node]
        lefts, rights = self.first.calls_from(left), self.second.calls_from(right)
        words = {**lefts, **rights}
        rows = []
        for word in words:
            near, symbol = self.first.call(left, word)
            far, other = self.second.call(right, word)
            rows.append((("call", word), self.pairs.place_of((near, far)), (symbol, other)))
        return rows

    def backs_from(self, node, symbol):
        """The list of what backs lead to, by a symbol or an empty stack (None): (letter, node)."""
        left, right = self.pairs.things[node]
        taken, other = (None, None) if symbol is None else symbol
        lefts, rights = self.first.backs_from(left, taken), self.second.backs_from(right, other)
        words = {**lefts, **rights}
        rows = []
        for word in words:
            pair = (lefts.get(word, self.first.lost), rights.get(word, self.second.lost))
            rows.append((("back", word), self.pairs.place_of(pair)))
        return rows

    def has_backs(self, node):
        """Whether some back may lead on from a node."""
        left, right = self.pairs.things[node]
        return self.first.has_backs(left) or self.second.has_backs(right)


class Everywhere:
    """All that a machine, told by its relations, can come to by letters with some words; no word is searched."""

    def __init__(self, relations, words):
        self.relations = relations
        self.words = words
        self.starts = [relations.start]

    def is_final(self, node):
        """Whether a word that leads to this node is one of those that are searched."""
        return False

    def plains_from(self, node):
        """The list of what plain letters lead to: (letter, node)."""
        return [(("plain", word), self.relations.plain(node, word)) for word in self.words]

    def calls_from(self, node):
        """The list of what calls lead to: (letter, node, symbol)."""
        return [(("call", word),) + self.relations.call(node, word) for word in self.words]

    def backs_from(self, node, symbol):
        """The list of what backs lead to, by a symbol or an empty stack (None): (letter, node)."""
        return [(("back", word), self.relations.back(node, word, symbol)) for word in self.words]

    def has_backs(self, node):
        """Whether some back may lead on from a node."""
        return True
