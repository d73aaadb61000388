"""Nested words, and the machines that take them (points 34 to 36)."""

from calltowers.alike import merged
from calltowers.meeting import Meeting
from calltowers.nestmoves import Moves, limited
from calltowers.relations import Relations
from calltowers.wordsearch import WordSearch, least_word
from calltowers.wordviews import Apart, Everywhere, Taken


def takes_word(machine, word):
    """Whether a nested machine takes a nested word."""
    relations = Relations(Moves(machine))
    near = relations.start
    waiting = []
    for kind, name in word:
        if kind == "plain":
            near = relations.plain(near, name)
        elif kind == "call":
            near, symbol = relations.call(near, name)
            waiting.append(symbol)
        else:
            near = relations.back(near, name, waiting.pop() if waiting else None)
    return relations.is_final(near)


def meet(first, second):
    """The machine that takes the words that both machines take."""
    return Meeting(Moves(first), Moves(second)).machine()


def union(first, second):
    """The machine that takes the words that at least one of two machines takes."""
    left, right = Moves(first), Moves(second)
    starts, moves, finals = left.shifted(0, 0)
    more_starts, more_moves, more_finals = right.shifted(len(left.nodes), len(left.symbols))
    return (starts + more_starts, moves + more_moves, finals + more_finals)


def certain(machine, words):
    """The machine with exactly one move for each letter that takes the same words made of these words."""
    relations = explored(machine, words)
    finals = [near for near in range(relations.many()) if relations.is_final(near)]
    return ((relations.start,), certain_moves(relations, words), tuple(finals))


def other(machine, words):
    """The machine that takes exactly the words made of these words that the machine does not take."""
    relations = explored(machine, words)
    finals = [near for near in range(relations.many()) if not relations.is_final(near)]
    return ((relations.start,), certain_moves(relations, words), tuple(finals))


def explored(machine, words):
    """The relations of a machine, with all that letters made of these words lead to."""
    relations = relations_of(machine, words)
    WordSearch(Everywhere(relations, words))
    return relations


def certain_moves(relations, words):
    """The moves between relations by the letters of these words."""
    moves = []
    for near in range(relations.many()):
        for word in words:
            moves.append(("plain", near, word, relations.plain(near, word)))
            moves.append(("call", near, word) + relations.call(near, word))
            for symbol in [None] + list(range(len(relations.symbols.things))):
                # What never comes together leads to where nothing is left: so each symbol has a move.
                is_known = (near, symbol) in relations.backs
                target = relations.back(near, word, symbol) if is_known else relations.lost
                moves.append(("back", near, word, symbol, target))
    return tuple(moves)


def shortest_word(machine):
    """The shortest word that a machine takes, of several ones the least; None if it takes none."""
    return least_word(Taken(Moves(machine)))


def difference(first, second, words):
    """The shortest and least word made of these words that exactly one of two machines takes, or None."""
    return least_word(Apart(relations_of(first, words), relations_of(second, words)))


def relations_of(machine, words):
    """The relations of a machine with only its moves with these words."""
    return Relations(Moves(merged(limited(machine, words))))
