"""The search for the endings of a pushdown in numbers, and the steps that they give (points 20 and 21)."""


class EndingSearch:
    """The endings of the heads that are asked for, and of all heads that are met from them.

    The exit of an ending is one number: its state times 2, and its flag.
    """

    def __init__(self, pushdown):
        self.pushdown = pushdown
        # For each head that is asked for: its exits, each of them once.
        self.exits = {}
        # For each head those that end as it does, with a mark: head times 2, and the mark.
        self.tails = {}
        # For each head those whose rules put it on a second symbol: (head, mark, second symbol).
        self.calls = {}
        # The heads whose rules have not been read yet, and the endings that nobody has passed on yet.
        self.unread = []
        self.fresh = []

    def ask(self, head):
        """Asks for the endings of a head."""
        if head not in self.exits:
            self.exits[head] = {}
            self.tails[head] = {}
            self.calls[head] = []
            self.unread.append(head)

    def run(self):
        """Finds all endings that are asked for."""
        while self.unread or self.fresh:
            if self.unread:
                self.read_rules(self.unread.pop())
            else:
                head, way_out = self.fresh.pop()
                self.pass_on(head, way_out)

    def read_rules(self, head):
        """Asks for what the rules of a head need."""
        for _, mark, q, w in self.pushdown.rules_from(head):
            if not w:
                self.store(head, 2 * q + mark)
                continue
            target = self.pushdown.head_at(q, w[0])
            if len(w) == 1:
                self.add_tail(target, head, mark)
                continue
            self.ask(target)
            self.calls[target].append((head, mark, w[1]))
            for way_out in list(self.exits[target]):
                self.come_back(way_out, head, mark, w[1])

    def store(self, head, way_out):
        """Keeps an ending, if it is a new one."""
        if way_out not in self.exits[head]:
            self.exits[head][way_out] = True
            self.fresh.append((head, way_out))

    def add_tail(self, target, head, mark):
        """Lets a head end as the target does, with a mark."""
        self.ask(target)
        user = 2 * head + mark
        if user not in self.tails[target]:
            self.tails[target][user] = True
            for way_out in list(self.exits[target]):
                self.store(head, way_out | mark)

    def come_back(self, way_out, head, mark, symbol):
        """A head has put something on a symbol, and this has ended."""
        target = self.pushdown.head_at(way_out >> 1, symbol)
        self.add_tail(target, head, mark | way_out & 1)

    def pass_on(self, head, way_out):
        """Tells a new ending to all that wait for the endings of its head."""
        for user in list(self.tails[head]):
            self.store(user >> 1, way_out | user & 1)
        for user, mark, symbol in list(self.calls[head]):
            self.come_back(way_out, user, mark, symbol)


def searched(pushdown, heads):
    """The search for the endings of these heads, when it has found them."""
    search = EndingSearch(pushdown)
    for head in heads:
        search.ask(head)
    search.run()
    return search


def steps_from(search, head):
    """The list of the steps from a head: (head, mark, index of the rule, the ending that is passed, or None)."""
    pushdown = search.pushdown
    steps = []
    for index, mark, q, w in pushdown.rules_from(head):
        if not w:
            continue
        target = pushdown.head_at(q, w[0])
        steps.append((target, mark, index, None))
        if len(w) == 2:
            for way_out in search.exits[target]:
                behind = pushdown.head_at(way_out >> 1, w[1])
                steps.append((behind, mark | way_out & 1, index, (target, way_out)))
    return steps


def all_endings(pushdown):
    """The list of all endings of a pushdown, in ascending order."""
    search = searched(pushdown, list(pushdown.rows))
    pairs = sorted([(head, way_out) for head in search.exits for way_out in search.exits[head]])
    states = pushdown.states
    return [pushdown.told_head(head) + (states[way_out >> 1], way_out & 1) for head, way_out in pairs]
