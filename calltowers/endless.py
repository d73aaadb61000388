"""Endless plays: a round paper of a marked one, or a rest paper that there is none (points 22 and 25)."""

from calltowers.circles import Groups
from calltowers.endsearch import all_endings, searched, steps_from
from calltowers.measures import Lengths
from calltowers.numbered import Numbered
from calltowers.routes import round_along
from calltowers.shortest import ShortestPlays


def endless(rules, head):
    """("marked", a round paper) if an endless play from a head is marked, otherwise ("rest", a rest paper)."""
    pushdown = Numbered(rules, (head,))
    start = pushdown.number_of(head)
    search = searched(pushdown, [start])
    steps = {near: steps_from(search, near) for near in search.exits}
    groups = Groups(steps, start)
    choices = groups.marked_within()
    if choices:
        plays = ShortestPlays(pushdown, list(steps), Lengths())
        return ("marked", round_along(steps, plays, start, choices))
    most = groups.most_marks()
    ranks = tuple([(pushdown.told_head(near), most[near]) for near in sorted(most)])
    return ("rest", (tuple(all_endings(pushdown)), ranks))
