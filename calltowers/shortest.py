"""The shortest plays of endings by any measure, and how they are told in parts (points 23, 25, 45 and 46)."""

from heapq import heappop, heappush


class ShortestPlays:
    """For each ending of some heads a play that is the shortest one by a measure.

    The heads must be all that are met from any of them. Endings are taken in the order of their lengths
    (Knuth), so that an ending that is taken has its shortest play. An ending is a pair: head, and exit.
    """

    def __init__(self, pushdown, heads, measure):
        self.pushdown = pushdown
        self.measure = measure
        # For each ending that has been taken the length of its play, by the measure.
        self.lengths = {}
        # For each ending the play that is the best one yet: (length, rule, ending of the first symbol or None,
        # ending by which the play goes on or None).
        self.best = {}
        self.queue = []
        # For each head: its exits that have been taken; those that end as it does, by (head, mark), with
        # (length of what is ahead, rule, ending of the first symbol); and those that put it on another symbol.
        self.exits = {head: [] for head in heads}
        self.tails = {head: {} for head in heads}
        self.calls = {head: [] for head in heads}
        for head in heads:
            self.read_rules(head)
        self.run()

    def run(self):
        """Takes all endings."""
        while self.queue:
            size, head, way_out = heappop(self.queue)
            if (head, way_out) not in self.lengths:
                self.lengths[(head, way_out)] = size
                self.exits[head].append(way_out)
                self.pass_ending((head, way_out))

    def read_rules(self, head):
        """Offers what the rules of a head give at once, and keeps what they wait for."""
        for index, mark, q, w in self.pushdown.rules_from(head):
            if not w:
                self.offer((head, 2 * q + mark), (self.measure.alone(index), index, None, None))
                continue
            target = self.pushdown.head_at(q, w[0])
            if len(w) == 1:
                self.add_tail(target, (head, mark), (self.measure.alone(index), index, None))
            else:
                self.calls[target].append((head, mark, w[1], index))

    def offer(self, ending, play):
        """Keeps a play of an ending, if it is the shortest one yet."""
        if ending not in self.best or play[0] < self.best[ending][0]:
            self.best[ending] = play
            heappush(self.queue, (play[0],) + ending)

    def add_tail(self, target, user, ahead):
        """Lets a head end as the target does; the first such way is the shortest one."""
        if user not in self.tails[target]:
            self.tails[target][user] = ahead
            for way_out in self.exits[target]:
                self.offer_tail(user, ahead, (target, way_out))

    def offer_tail(self, user, ahead, ending):
        """Offers the play that goes on with that of an ending."""
        head, mark = user
        size, index, first = ahead
        whole = self.measure.joined(size, self.lengths[ending])
        self.offer((head, ending[1] | mark), (whole, index, first, ending))

    def pass_ending(self, ending):
        """Tells a taken ending to all that wait for the endings of its head."""
        target, way_out = ending
        for user in list(self.tails[target]):
            self.offer_tail(user, self.tails[target][user], ending)
        for head, mark, symbol, index in self.calls[target]:
            behind = self.pushdown.head_at(way_out >> 1, symbol)
            ahead = self.measure.passing(index, self.lengths[ending])
            self.add_tail(behind, (head, mark | way_out & 1), (ahead, index, ending))

    def row_of(self, ending):
        """The play of an ending as a list of pairs: rule, and the ending that is passed behind it, or None."""
        row = []
        while ending is not None:
            _, index, first, ending = self.best[ending]
            row.append((index, first))
        return row

    def rows_needed(self, rows):
        """For each ending that is passed in these rows, or in what they need: its row."""
        needed = {}
        waiting = list(rows)
        while waiting:
            row = waiting.pop()
            for _, ending in row:
                if ending is not None and ending not in needed:
                    needed[ending] = self.row_of(ending)
                    waiting.append(needed[ending])
        return needed

    def told(self, rows):
        """The tuple of parts that rows of such pairs need, and the list of the tuples of their items."""
        needed = self.rows_needed(rows)
        # A play is longer than each one that it passes.
        order = sorted(needed, key=lambda ending: (self.lengths[ending], ending))
        places = {ending: at for at, ending in enumerate(order)}
        parts = tuple([items_of(needed[ending], places) for ending in order])
        return parts, [items_of(row, places) for row in rows]


def items_of(row, places):
    """The items of a row, when the places of the parts are known."""
    items = []
    for index, ending in row:
        items.append(index)
        if ending is not None:
            items.append(-1 - places[ending])
    return tuple(items)
