"""Measures of plays: how much a rule counts, also with the ending that it passes, and two plays together.

A play never counts less than a part of it, so that the least ones can be found in ascending order.
"""


class Lengths:
    """A play counts as many as it has rules."""

    def nothing(self):
        """What a play without rules counts."""
        return 0

    def alone(self, index):
        """What the rule with this index counts."""
        return 1

    def passing(self, index, inner):
        """What a rule counts with the play, counting inner, of the ending of its first symbol."""
        return 1 + inner

    def joined(self, ahead, behind):
        """What two plays count, one behind the other."""
        return ahead + behind


class Prices:
    """A play counts its calls, and then its rules (point 45)."""

    def __init__(self, rules):
        self.calls = [1 if len(rule[3]) == 2 else 0 for rule in rules]

    def nothing(self):
        """What a play without rules counts."""
        return (0, 0)

    def alone(self, index):
        """What the rule with this index counts."""
        return (self.calls[index], 1)

    def passing(self, index, inner):
        """What a rule counts with the play, counting inner, of the ending of its first symbol."""
        return self.joined(self.alone(index), inner)

    def joined(self, ahead, behind):
        """What two plays count, one behind the other."""
        return (ahead[0] + behind[0], ahead[1] + behind[1])


class Heights:
    """A play of an ending counts the most symbols that it ever has on the stack (point 46)."""

    def alone(self, index):
        """What a rule counts: the symbol of its head."""
        return 1

    def passing(self, index, inner):
        """What a rule counts with the play, counting inner, of the ending that is passed above its second symbol."""
        return 1 + inner

    def joined(self, ahead, behind):
        """What two plays count, one behind the other."""
        return max(ahead, behind)
