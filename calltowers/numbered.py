"""Things and pushdowns in numbers, so that a search compares numbers and not states and symbols (point 13)."""

from calltowers.order import rank


def in_order(things):
    """The different ones of these things, in ascending order."""
    return sorted({thing: True for thing in things}, key=rank)


def places_of(things):
    """For each thing its place in a list."""
    return {thing: at for at, thing in enumerate(things)}


class Numbering:
    """Things with numbers, in the order in which they come about."""

    def __init__(self):
        self.things = []
        self.places = {}

    def place_of(self, thing):
        """The number of a thing; it gets one if it has none."""
        if thing not in self.places:
            self.places[thing] = len(self.things)
            self.things.append(thing)
        return self.places[thing]


class Numbered:
    """A pushdown whose states, symbols and heads are numbers, which ascend as the things themselves do."""

    def __init__(self, rules, heads):
        self.states = in_order([state for p, _, q, _, _ in rules for state in (p, q)] + [p for p, _ in heads])
        self.symbols = in_order([symbol for _, s, _, w, _ in rules for symbol in (s,) + w] + [s for _, s in heads])
        self.state_at = places_of(self.states)
        self.symbol_at = places_of(self.symbols)
        # For each head its rules: (index, mark, state, symbols).
        self.rows = {}
        for index, (p, s, q, w, mark) in enumerate(rules):
            symbols = tuple([self.symbol_at[symbol] for symbol in w])
            row = (index, mark, self.state_at[q], symbols)
            self.rows.setdefault(self.number_of((p, s)), []).append(row)

    def head_at(self, p, s):
        """The number of the head of a state and a symbol that are numbers."""
        return p * len(self.symbols) + s

    def number_of(self, head):
        """The number of a head."""
        p, s = head
        return self.head_at(self.state_at[p], self.symbol_at[s])

    def told_head(self, number):
        """The head that has this number."""
        p, s = divmod(number, len(self.symbols))
        return (self.states[p], self.symbols[s])

    def rules_from(self, head):
        """The list of the rules of a head: (index, mark, state, symbols)."""
        return self.rows.get(head, [])
