"""Round papers: endless plays that are told in parts, and their judge (points 23 and 32)."""


def takes_round(rules, head, paper):
    """Whether a round paper tells a marked endless play from a head."""
    parts, begin, loop = paper
    judge = RoundJudge(rules)
    for part in parts:
        if not judge.takes_part(part):
            return False
    p, s = head
    after = judge.played(p, [s], begin)
    if after is None or not after[1]:
        return False
    state, top = after[0], after[1][-1]
    behind = judge.played(state, [top], loop)
    if behind is None or not behind[1]:
        return False
    return behind[0] == state and behind[1][-1] == top and judge.has_mark(loop)


class RoundJudge:
    """The judge of round papers: it looks at each item once, and never writes out a part."""

    def __init__(self, rules):
        self.rules = rules
        # For each part that is right: the state and the symbol where it begins, the state where it ends, its mark.
        self.parts = []

    def is_known(self, item):
        """Whether an item is the index of a rule or a part that has been taken."""
        return -len(self.parts) <= item < len(self.rules)

    def takes_part(self, part):
        """Whether the next part is right; if so, later items may have it."""
        if not part or not self.is_known(part[0]):
            return False
        p, s = self.beginning(part[0])
        after = self.played(p, [s], part)
        if after is None or after[1]:
            return False
        self.parts.append((p, s, after[0], self.has_mark(part)))
        return True

    def beginning(self, item):
        """The head from which an item plays."""
        row = self.rules[item] if item >= 0 else self.parts[-1 - item]
        return row[:2]

    def played(self, state, tower, items):
        """The state and the tower, its top being the last symbol, after items; None if they cannot be played."""
        tower = list(tower)
        for item in items:
            if not tower or not self.is_known(item) or self.beginning(item) != (state, tower.pop()):
                return None
            if item >= 0:
                _, _, state, w, _ = self.rules[item]
                tower.extend(w[::-1])
            else:
                state = self.parts[-1 - item][2]
        return (state, tower)

    def has_mark(self, items):
        """Whether items that can be played have a rule with the mark 1, parts written out."""
        return any([self.rules[item][4] == 1 if item >= 0 else self.parts[-1 - item][3] for item in items])


def written_out(parts, items, n):
    """The list of the first n numbers of rules of which items consist, or of all if there are fewer."""
    sizes = lengths_of(parts)
    numbers = []
    waiting = list(items[::-1])
    while waiting and len(numbers) < n:
        item = waiting.pop()
        if item >= 0:
            numbers.append(item)
        elif sizes[-1 - item] > 0:
            # Empty parts are passed over, since there may be far too many of them to be looked at.
            waiting.extend(parts[-1 - item][::-1])
    return numbers


def length(parts, items):
    """Of how many rules items consist, written out."""
    return summed(lengths_of(parts), items)


def lengths_of(parts):
    """The list of the lengths of parts, each of which has only parts before it."""
    sizes = []
    for part in parts:
        size = summed(sizes, part)
        sizes.append(size)
    return sizes


def summed(sizes, items):
    """The length of items, when those of the parts are known."""
    return sum([1 if item >= 0 else sizes[-1 - item] for item in items])
