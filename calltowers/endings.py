"""How calls end: endings, and steps between heads (points 20 and 21)."""

from calltowers.endsearch import all_endings, searched, steps_from
from calltowers.numbered import Numbered


def endings(rules):
    """The list of all endings of a marked pushdown, in ascending order."""
    return all_endings(Numbered(rules, ()))


def steps_between(rules, head):
    """The list of the pairs (head, mark) to which steps lead from a head, in ascending order."""
    pushdown = Numbered(rules, (head,))
    start = pushdown.number_of(head)
    steps = steps_from(searched(pushdown, [start]), start)
    pairs = sorted({(target, mark) for target, mark, _, _ in steps})
    return [(pushdown.told_head(target), mark) for target, mark in pairs]


def met(rules, head):
    """The list of the heads that are met from a head, in ascending order."""
    pushdown = Numbered(rules, (head,))
    search = searched(pushdown, [pushdown.number_of(head)])
    return [pushdown.told_head(number) for number in sorted(search.exits)]
