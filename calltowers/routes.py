"""The shortest plays along steps between heads, and the papers that are made of them (points 23, 32 and 33)."""

from heapq import heappop, heappush


class Routes:
    """For each head to which steps lead from a start: the shortest play there.

    The steps are those of endsearch.steps_from; plays are the shortest plays of the endings that they pass.
    """

    def __init__(self, steps, plays, start):
        self.steps = steps
        self.plays = plays
        # For each head the length of the shortest play to it, and its last step with the head from which this leads.
        self.distance = {start: 0}
        self.last = {start: None}
        self.measure(start)

    def measure(self, start):
        """Looks at the heads in the order of their distances (Dijkstra)."""
        queue = [(0, start)]
        while queue:
            far, head = heappop(queue)
            if far > self.distance[head]:
                continue
            for step in self.steps[head]:
                target = step[0]
                near = far + self.length_of(step)
                if target not in self.distance or near < self.distance[target]:
                    self.distance[target] = near
                    self.last[target] = (head, step)
                    heappush(queue, (near, target))

    def length_of(self, step):
        """The number of rules that a step uses."""
        return 1 if step[3] is None else 1 + self.plays.lengths[step[3]]

    def row_to(self, head):
        """The shortest play to a head as a list of pairs: rule, and the ending that is passed behind it, or None."""
        row = []
        while self.last[head] is not None:
            head, step = self.last[head]
            row.append(step[2:])
        return row[::-1]


def round_along(steps, plays, start, choices):
    """The round paper of a play from the start that uses one of the choices again and again.

    The choices are pairs of a head and a step from it that lies on a circle.
    """
    ahead = Routes(steps, plays, start)
    head, step = min(choices, key=lambda choice: (ahead.distance[choice[0]], ahead.length_of(choice[1])))
    back = Routes(steps, plays, step[0])
    parts, rows = plays.told([ahead.row_to(head), [step[2:]] + back.row_to(head)])
    return (parts, rows[0], rows[1])
