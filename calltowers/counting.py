"""Counting the configurations of a table, and their places (point 47)."""

from calltowers.numbered import places_of
from calltowers.tables import has


def count(table, n):
    """The number of the configurations with n symbols that a table has."""
    many = numbers_from(table, n)[n]
    return sum([many[node] for node in table[2]])


def numbers_from(table, n):
    """For each number up to n the list of the numbers, for each node, of stacks of so many symbols that end well."""
    moves, finals = table[3], table[4]
    # Many symbols lead to the same node: so each of these is looked at once.
    weights = [weights_of(row) for row in moves]
    ends = {node: True for node in finals}
    levels = [[1 if node in ends else 0 for node in range(len(moves))]]
    for k in range(n):
        levels.append([sum([times * levels[k][target] for target, times in row]) for row in weights])
    return levels


def weights_of(row):
    """The list of the pairs of a node and the number of the symbols that lead to it."""
    weights = {}
    for target in row:
        weights[target] = weights.get(target, 0) + 1
    return list(weights.items())


def place_of(table, configuration):
    """The place of a configuration among those with as many symbols; None if the table does not have it."""
    if not has(table, configuration):
        return None
    states, symbols, starts, moves, _ = table
    state, stack = configuration
    levels = numbers_from(table, len(stack))
    at = states.index(state)
    place = sum([levels[-1][node] for node in starts[:at]])
    symbol_at = places_of(symbols)
    node = starts[at]
    for k, symbol in enumerate(stack):
        row = moves[node]
        ahead = levels[len(stack) - 1 - k]
        place += sum([ahead[target] for target in row[:symbol_at[symbol]]])
        node = row[symbol_at[symbol]]
    return place


def configuration_at(table, n, place):
    """The configuration with n symbols at a place; None if there is none."""
    states, symbols, starts, moves, _ = table
    levels = numbers_from(table, n)
    if not 0 <= place < sum([levels[n][node] for node in starts]):
        return None
    at, place = passed(levels[n], starts, place)
    node = starts[at]
    stack = []
    for k in range(n - 1, -1, -1):
        at_symbol, place = passed(levels[k], moves[node], place)
        stack.append(symbols[at_symbol])
        node = moves[node][at_symbol]
    return (states[at], tuple(stack))


def passed(many, nodes, place):
    """The index of the node behind which a place is, and the place there, when so many are behind each node."""
    at = 0
    while place >= many[nodes[at]]:
        place -= many[nodes[at]]
        at += 1
    return at, place
