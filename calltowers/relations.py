"""What is known of a nested machine behind a word: where it can be, for each node in which the open call has begun."""

from calltowers.numbered import Numbering
from calltowers.numbersets import members, set_of

# In the place of the node in which the open call has begun: no call is open.
OUTERMOST = -1
# What is known if no way along the word is left.
LOST = ()


class Relations:
    """A nested machine made certain: its nodes are the numbers of relations, found out when they are asked for.

    A relation is a tuple of pairs: a node to which the last open call has led, or OUTERMOST, and the nodes to which
    ways lead from there. A symbol is a tuple of triples (node to which the call leads, symbol, first node of the
    pair that it comes from). Sets of nodes are numbers, as in numbersets.
    """

    def __init__(self, moves):
        self.moves = moves
        self.relations = Numbering()
        self.symbols = Numbering()
        self.finals = set_of(list(moves.finals))
        self.leaving = set_of(list(moves.leaving))
        # For each relation, and for the backs also the symbol: what its letters lead to, by their words.
        self.plains = {}
        self.calls = {}
        self.backs = {}
        # The same for sets of nodes.
        self.spread_plains = {}
        self.spread_calls = {}
        self.spread_backs = {}
        starts = set_of(moves.starts)
        self.start = self.relations.place_of(((OUTERMOST, starts),) if starts else LOST)
        self.lost = self.relations.place_of(LOST)
        self.lost_symbol = self.symbols.place_of(LOST)

    def many(self):
        """How many relations have come about."""
        return len(self.relations.things)

    def is_final(self, relation):
        """Whether a way has come to a final node."""
        return any([nodes & self.finals != 0 for _, nodes in self.relations.things[relation]])

    def has_backs(self, relation):
        """Whether a way has come to a node from which backs lead on."""
        return any([nodes & self.leaving != 0 for _, nodes in self.relations.things[relation]])

    def plains_from(self, relation):
        """For each word of a plain letter with a move the relation to which it leads."""
        if relation not in self.plains:
            found = {}
            for key, nodes in self.relations.things[relation]:
                for word, ends in self.plain_ends(nodes).items():
                    found.setdefault(word, {})[key] = ends
            self.plains[relation] = {word: self.relation_of(found[word]) for word in found}
        return self.plains[relation]

    def calls_from(self, relation):
        """For each word of a call with a move the pair of the relation to which it leads, and its symbol."""
        if relation not in self.calls:
            found = {}
            for key, nodes in self.relations.things[relation]:
                for word, target, symbol in self.call_ends(nodes):
                    found.setdefault(word, {})[(target, symbol, key)] = True
            self.calls[relation] = {word: self.entered(sorted(found[word])) for word in found}
        return self.calls[relation]

    def backs_from(self, relation, symbol):
        """For each word of a back with a move the relation to which it leads, by a symbol or an empty stack (None)."""
        if (relation, symbol) not in self.backs:
            found = {}
            nodes_at = {key: nodes for key, nodes in self.relations.things[relation]}
            triples = [(OUTERMOST, None, OUTERMOST)] if symbol is None else self.symbols.things[symbol]
            for begun, taken, key in triples:
                for word, ends in self.back_ends(nodes_at.get(begun, 0), taken).items():
                    row = found.setdefault(word, {})
                    row[key] = row.get(key, 0) | ends
            self.backs[(relation, symbol)] = {word: self.relation_of(found[word]) for word in found}
        return self.backs[(relation, symbol)]

    def plain(self, relation, word):
        """The relation to which a plain letter leads."""
        return self.plains_from(relation).get(word, self.lost)

    def call(self, relation, word):
        """The relation to which a call leads, and its symbol."""
        return self.calls_from(relation).get(word, (self.lost, self.lost_symbol))

    def back(self, relation, word, symbol):
        """The relation to which a back leads, by a symbol or an empty stack (None)."""
        return self.backs_from(relation, symbol).get(word, self.lost)

    def relation_of(self, nodes_at):
        """The number of the relation with these sets of nodes."""
        return self.relations.place_of(tuple([(key, nodes_at[key]) for key in sorted(nodes_at)]))

    def entered(self, triples):
        """The relation at the beginning of a call, and its symbol."""
        relation = self.relation_of({target: 1 << target for target, _, _ in triples})
        return (relation, self.symbols.place_of(tuple(triples)))

    def plain_ends(self, nodes):
        """For each word the set of the nodes to which its plain letter leads from a set of nodes."""
        if nodes not in self.spread_plains:
            rows = [row for node in members(nodes) for row in self.moves.plains.get(node, [])]
            self.spread_plains[nodes] = sets_by_word(rows)
        return self.spread_plains[nodes]

    def call_ends(self, nodes):
        """The list of the call moves from a set of nodes."""
        if nodes not in self.spread_calls:
            self.spread_calls[nodes] = [row for node in members(nodes) for row in self.moves.calls.get(node, [])]
        return self.spread_calls[nodes]

    def back_ends(self, nodes, symbol):
        """For each word the set of the nodes to which its back leads from a set of nodes, by a symbol of the moves."""
        if (nodes, symbol) not in self.spread_backs:
            rows = [row for node in members(nodes) for row in self.moves.backs.get((node, symbol), [])]
            self.spread_backs[(nodes, symbol)] = sets_by_word(rows)
        return self.spread_backs[(nodes, symbol)]


def sets_by_word(rows):
    """For each word the set of the nodes that stand beside it."""
    found = {}
    for word, node in rows:
        found[word] = found.get(word, 0) | 1 << node
    return found
