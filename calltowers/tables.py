"""Tables of sets of stacks: their algebra, least forms and differences (points 41 to 43)."""

from calltowers.numbered import Numbering, places_of
from calltowers.order import rank
from calltowers.partition import Partition
from calltowers.stacks import in_order
from calltowers.tableviews import Both, Subsets


def table_of(machine, states, symbols):
    """The table of the configurations of these states and symbols that a machine accepts."""
    view = Subsets(machine, states, symbols)
    return built(states, symbols, [view.start_of(state) for state in states], view)


def built(states, symbols, keys, view):
    """The table whose nodes are the keys that a view tells, from those of the states on, in the order of coming."""
    nodes = Numbering()
    starts = tuple([nodes.place_of(key) for key in keys])
    moves = []
    while len(moves) < len(nodes.things):
        row = view.row_of(nodes.things[len(moves)])
        moves.append(tuple([nodes.place_of(key) for key in row]))
    finals = tuple([at for at, key in enumerate(nodes.things) if view.is_final(key)])
    return (tuple(states), tuple(symbols), starts, tuple(moves), finals)


def has(table, configuration):
    """Whether a table has a configuration."""
    states, symbols, starts, moves, finals = table
    state, stack = configuration
    state_at, symbol_at = places_of(states), places_of(symbols)
    if state not in state_at or not all([symbol in symbol_at for symbol in stack]):
        return False
    node = starts[state_at[state]]
    for symbol in stack:
        node = moves[node][symbol_at[symbol]]
    return node in finals


def meet(first, second):
    """The table of the configurations that both tables have."""
    return combined(first, second, (3,))


def union(first, second):
    """The table of the configurations that at least one of two tables has."""
    return combined(first, second, (1, 2, 3))


def minus(first, second):
    """The table of the configurations that the first table has and the second one does not."""
    return combined(first, second, (1,))


def combined(first, second, wanted):
    """The table of two tables that has what is in wanted: 1 in the first one alone, 2 in the second one, 3 in both."""
    view = Both(first, second, wanted)
    return built(first[0], first[1], view.first_pairs(), view)


def least(table):
    """The table with the same configurations and the fewest nodes, numbered as they are come to."""
    view = Classes(table)
    return built(table[0], table[1], [view.classes[node] for node in table[2]], view)


class Classes:
    """The nodes of a table in classes of those from which the same stacks lead to final nodes."""

    def __init__(self, table):
        self.moves = table[3]
        finals = {node: True for node in table[4]}
        rows = [[(at, (target,)) for at, target in enumerate(row)] for row in self.moves]
        first_classes = [1 if node in finals else 0 for node in range(len(self.moves))]
        self.classes = Partition(rows, first_classes).classes
        self.finals = {self.classes[node]: True for node in table[4]}
        # For each class one of its nodes.
        self.sample = {own: node for node, own in enumerate(self.classes)}

    def row_of(self, own):
        """The classes to which the moves of a class lead."""
        return [self.classes[target] for target in self.moves[self.sample[own]]]

    def is_final(self, own):
        """Whether the nodes of a class are final."""
        return own in self.finals


def difference(first, second):
    """The least configuration with the fewest symbols that exactly one of two tables has; None if there is none."""
    states, symbols, starts, moves, finals = combined(first, second, (1, 2))
    far = distances(moves, finals)
    known = [(far[node], at, node) for at, node in enumerate(starts) if node in far]
    if not known:
        return None
    many, at, node = min(known)
    stack = []
    for left in range(many - 1, -1, -1):
        nearer = [place for place, target in enumerate(moves[node]) if far.get(target, many) == left]
        stack.append(symbols[nearer[0]])
        node = moves[node][nearer[0]]
    return (states[at], tuple(stack))


def distances(moves, finals):
    """For each node from which moves lead to a final one the least number of such moves."""
    before = [{} for _ in moves]
    for node, row in enumerate(moves):
        for target in row:
            before[target][node] = True
    far = {node: 0 for node in finals}
    waiting = list(finals)
    while waiting:
        nearer = {node: True for target in waiting for node in before[target] if node not in far}
        far.update({node: far[waiting[0]] + 1 for node in nearer})
        waiting = list(nearer)
    return far


def machine_of(table):
    """The plain machine that accepts the configurations of a table."""
    states, symbols, starts, moves, finals = table
    names = names_for(states, len(moves))
    # Where no final node is ahead, nothing is accepted: so no edge need lead there.
    far = distances(moves, finals)
    places = list(zip(states, starts)) + [(names[node], node) for node in far]
    edges = [(place, symbol, names[target]) for place, node in places
             for symbol, target in zip(symbols, moves[node]) if target in far]
    ends = [place for place, node in places if far.get(node) == 0]
    return (tuple(in_order(edges)), tuple(sorted(ends, key=rank)))


def names_for(states, many):
    """The list of the first nodes ("node", k) that are no states, so that no edge leads to a state."""
    taken = {state: True for state in states}
    names = []
    k = 0
    while len(names) < many:
        if ("node", k) not in taken:
            names.append(("node", k))
        k += 1
    return names
