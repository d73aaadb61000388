"""The shortest plays along steps between heads, and the papers that are made of them (points 23, 32 and 33)."""

from heapq import heappop, heappush


class Routes:
    """For each head to which steps lead from one of some starts: the shortest play there.

    The steps are those of endsearch.steps_from; plays are the shortest plays of the endings that they pass, and
    have the measure. In the place of heads there can also be other numbers, if the steps lead to such ones.
    """

    def __init__(self, steps, plays, starts):
        self.steps = steps
        self.plays = plays
        self.measure = plays.measure
        # For each head the length of the shortest play to it, and its last step with the head from which this leads.
        self.distance = {start: self.measure.nothing() for start in starts}
        self.last = {start: None for start in starts}
        self.spread(starts)

    def spread(self, starts):
        """Looks at the heads in the order of their distances (Dijkstra)."""
        queue = [(self.measure.nothing(), start) for start in sorted(starts)]
        while queue:
            far, head = heappop(queue)
            if far > self.distance[head]:
                continue
            for step in self.steps[head]:
                target = step[0]
                near = self.measure.joined(far, self.length_of(step))
                if target not in self.distance or near < self.distance[target]:
                    self.distance[target] = near
                    self.last[target] = (head, step)
                    heappush(queue, (near, target))

    def length_of(self, step):
        """What a step counts."""
        _, _, index, ending = step
        return self.measure.alone(index) if ending is None else self.measure.passing(index, self.plays.lengths[ending])

    def row_to(self, head):
        """The shortest play to a head as a list of pairs: rule, and the ending that is passed behind it, or None."""
        row = []
        while self.last[head] is not None:
            head, step = self.last[head]
            row.append(step[2:])
        return row[::-1]


def round_along(steps, plays, start, choices):
    """The round paper of a play from the start that uses one of the choices again and again.

    The choices are pairs of a head and a step from it that lies on a circle.
    """
    ahead = Routes(steps, plays, [start])
    head, step = min(choices, key=lambda choice: (ahead.distance[choice[0]], ahead.length_of(choice[1])))
    back = Routes(steps, plays, [step[0]])
    parts, rows = plays.told([ahead.row_to(head), [step[2:]] + back.row_to(head)])
    return (parts, rows[0], rows[1])
