"""Circles of steps between heads, and the greatest numbers of marked steps where no circle is marked."""


class Groups:
    """The heads that are met from a start, in groups of which each two heads lead to each other (Tarjan).

    The steps from each head are tuples that begin with the target and the mark.
    """

    def __init__(self, steps, start):
        self.steps = steps
        # For each head that has been come to its number in this order, and the least one that it is known to lead to.
        self.come = {}
        self.least = {}
        # The heads whose group is not complete yet.
        self.pending = []
        # The complete groups: each one stands behind those to which steps lead from it.
        self.groups = []
        self.group_of = {}
        self.walk(start)

    def walk(self, start):
        """Finds the groups of all heads that are met from the start."""
        self.enter(start)
        path = [(start, 0)]
        while path:
            head, at = path.pop()
            if at == len(self.steps[head]):
                self.leave(head)
                if path:
                    self.lead(path[-1][0], self.least[head])
                continue
            path.append((head, at + 1))
            target = self.steps[head][at][0]
            if target not in self.come:
                self.enter(target)
                path.append((target, 0))
            elif target not in self.group_of:
                self.lead(head, self.come[target])

    def enter(self, head):
        """Comes to a new head."""
        self.come[head] = self.least[head] = len(self.come)
        self.pending.append(head)

    def lead(self, head, number):
        """Keeps that a head leads to one that was come to with this number."""
        self.least[head] = min(self.least[head], number)

    def leave(self, head):
        """Completes the group of a head, if it leads to none that was come to before it."""
        if self.least[head] < self.come[head]:
            return
        group = []
        while not group or group[-1] != head:
            group.append(self.pending.pop())
            self.group_of[group[-1]] = len(self.groups)
        self.groups.append(group)

    def marked_within(self):
        """The list of the pairs (head, step) of marked steps that stay in their group, and so lie on a circle."""
        pairs = [(head, step) for group in self.groups for head in group for step in self.steps[head]]
        return [(head, step) for head, step in pairs if step[1] == 1 and self.is_within(head, step)]

    def is_within(self, head, step):
        """Whether a step stays in the group of its head."""
        return self.group_of[head] == self.group_of[step[0]]

    def most_marks(self):
        """For each head the greatest number of marked steps on a way from it, if no circle has a marked step."""
        most = {}
        for group in self.groups:
            leaving = [step for head in group for step in self.steps[head] if not self.is_within(head, step)]
            number = max([most[step[0]] + step[1] for step in leaving], default=0)
            for head in group:
                most[head] = number
        return most
