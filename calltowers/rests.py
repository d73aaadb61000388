"""Rest papers: that no endless play is marked, and their judge (point 24)."""


def takes_rest(rules, head, paper):
    """Whether a rest paper shows that no endless play from a head is marked."""
    exits = exits_of(paper[0])
    ranks = {near: number for near, number in paper[1]}
    if exits is None or len(ranks) != len(paper[1]) or head not in ranks:
        return False
    if any([number < 0 for number in list(ranks.values())]):
        return False
    judge = RestJudge(exits, ranks)
    return all([judge.takes_rule(rule) for rule in rules])


def exits_of(endings):
    """For each head its exits (state, flag) by the endings of a paper; None if one of them is no flag."""
    exits = {}
    for p, s, q, f in endings:
        if f not in (0, 1):
            return None
        exits.setdefault((p, s), {})[(q, f)] = True
    return exits


class RestJudge:
    """The judge of a rest paper, who looks at each rule once."""

    def __init__(self, exits, ranks):
        self.exits = exits
        self.ranks = ranks

    def takes_rule(self, rule):
        """Whether a rule does what its head is told to do; a head without a rank is told nothing."""
        p, s, q, w, m = rule
        if (p, s) not in self.ranks:
            return True
        most = self.ranks[(p, s)]
        if not w:
            return self.has_exits((p, s), [(q, m)], 0)
        if not self.has_rank((q, w[0]), most - m):
            return False
        ways_out = self.exits_from((q, w[0]))
        if len(w) == 1:
            return self.has_exits((p, s), ways_out, m)
        for r, f in ways_out:
            mark = max(m, f)
            behind = (r, w[1])
            if not self.has_rank(behind, most - mark) or not self.has_exits((p, s), self.exits_from(behind), mark):
                return False
        return True

    def exits_from(self, head):
        """The list of the exits of a head."""
        return list(self.exits.get(head, {}))

    def has_rank(self, head, most):
        """Whether a head has a rank that is at most this number."""
        return head in self.ranks and self.ranks[head] <= most

    def has_exits(self, head, ways_out, mark):
        """Whether a head has all of these exits, each with the greater one of its flag and a mark."""
        own = self.exits.get(head, {})
        return all([(r, max(mark, f)) in own for r, f in ways_out])
