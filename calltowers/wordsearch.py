"""The shortest words of nested machines, and the least one of them (point 36)."""

from heapq import heappop, heappush

from calltowers.relations import OUTERMOST


class WordSearch:
    """The search for the shortest words that a view of a nested machine takes.

    An item is a pair (begun, node): the last open call has led to the node begun (or no call is open), and from there
    matched letters lead to the node. Items are looked at in the order of the lengths of the words behind which they
    come about, so that nothing longer than the shortest word is looked at.
    """

    def __init__(self, view):
        self.view = view
        # For each node begun the least length of a word that leads there; for each item that of its matched letters.
        self.ahead = {OUTERMOST: 0}
        self.size = {}
        # For each item the ways by which its least length comes about: (item before, letter, item, letter): the last
        # two are None, or the letter is a call and there is the last item of this call, and the letter by which it
        # comes back.
        self.ways = {}
        # For each node begun, and each symbol: the items and letters by which it is called; and its items with a back.
        self.sites = {}
        self.exits = {}
        self.queue = []
        # The final items of the shortest words.
        self.goals = []
        for node in view.starts:
            self.keep_way((OUTERMOST, node), 0, None)
        self.run()

    def run(self):
        """Looks at the items that belong to words as long as the shortest one, or shorter."""
        best = None
        while self.queue:
            length, item = heappop(self.queue)
            if best is not None and length > best:
                return
            if length > self.ahead[item[0]] + self.size[item]:
                # A shorter way has been found since it was put there.
                continue
            if self.view.is_final(item[1]):
                best = length
                self.goals.append(item)
            self.look(item)

    def keep_way(self, item, size, way):
        """Keeps a way to an item, if there is no shorter one; nothing longer comes ahead of something shorter."""
        if item not in self.size or size < self.size[item]:
            self.size[item] = size
            self.ways[item] = []
            heappush(self.queue, (self.ahead[item[0]] + size, item))
        if way is not None and size == self.size[item]:
            self.ways[item].append(way)

    def look(self, item):
        """Offers what comes about behind an item."""
        begun, node = item
        size = self.size[item]
        for letter, target in self.view.plains_from(node):
            self.keep_way((begun, target), size + 1, (item, letter, None, None))
        for letter, target, symbol in self.view.calls_from(node):
            self.enter_call(item, letter, target, symbol)
        if begun == OUTERMOST:
            for letter, target in self.view.backs_from(node, None):
                self.keep_way((begun, target), size + 1, (item, letter, None, None))
        elif self.view.has_backs(node):
            self.exits[begun].append(item)
            for symbol in self.sites[begun]:
                self.leave_calls(self.sites[begun][symbol], symbol, item)

    def enter_call(self, item, letter, target, symbol):
        """A call leads from an item to a target: it can stay open, or come back as it has done already."""
        length = self.ahead[item[0]] + self.size[item] + 1
        if target not in self.ahead:
            self.ahead[target] = length
            self.sites[target] = {}
            self.exits[target] = []
        if length == self.ahead[target]:
            self.keep_way((target, target), 0, (item, letter, None, None))
        self.sites[target].setdefault(symbol, []).append((item, letter))
        for last in self.exits[target]:
            self.leave_calls([(item, letter)], symbol, last)

    def leave_calls(self, sites, symbol, last):
        """Calls with this symbol come back from their last item."""
        for letter, target in self.view.backs_from(last[1], symbol):
            for item, call in sites:
                size = self.size[item] + self.size[last] + 2
                self.keep_way((item[0], target), size, (item, call, last, letter))


def least_word(view):
    """The least one of the shortest words that a view of a nested machine takes; None if there is none."""
    search = WordSearch(view)
    if not search.goals:
        return None
    writer = WordWriter(search)
    length = search.ahead[search.goals[0][0]] + search.size[search.goals[0]]
    return tuple([writer.next_letter() for _ in range(length)])


class WordWriter:
    """The writing of the least one of the shortest words, letter by letter.

    A context is an open call, or the whole word: (the ways onward from each item, the item in which it comes back or
    None, and the list of what it comes back to: letter, context, item). The writing can be in several places, pairs of
    a context and an item, to which the letters lead that have been written.
    """

    def __init__(self, search):
        self.search = search
        # For each item in which a call comes back the ways onward within this call.
        self.within = {}
        onward = self.ways_onward(search.goals, None)
        self.contexts = [(onward, None, [])]
        starts = [(OUTERMOST, node) for node in search.view.starts]
        self.places = {(0, item): True for item in starts if item in onward}

    def ways_onward(self, goals, root):
        """For each item the ways that lead from it to one of the goals: (letter, next item, last item, letter).

        They begin in the root, if there is one; then what is ahead of this does not count.
        """
        onward = {goal: [] for goal in goals}
        waiting = list(goals)
        while waiting:
            item = waiting.pop()
            ways = [] if item == root else self.search.ways[item]
            for before, letter, last, back in ways:
                if before not in onward:
                    onward[before] = []
                    waiting.append(before)
                onward[before].append((letter, item, last, back))
        return onward

    def next_letter(self):
        """Writes the least letter that can be the next one."""
        moves = [move for place in self.places for move in self.moves_from(place)]
        least = min([move[0] for move in moves])
        self.places = {}
        entered = {}
        for letter, context, item, last, back in moves:
            if letter == least and last is None:
                self.places[(context, item)] = True
            elif letter == least:
                entered.setdefault(last, []).append((back, context, item))
        for last in entered:
            self.open_context(last, entered[last])
        return least

    def moves_from(self, place):
        """The list of what can be next: (letter, context, item, last item and letter of a call that comes back)."""
        context, item = place
        onward, last, behind = self.contexts[context]
        if item == last:
            return [(letter, outer, target, None, None) for letter, outer, target in behind]
        return [(letter, context, target, inner, back) for letter, target, inner, back in onward[item]]

    def open_context(self, last, behind):
        """Opens a call that comes back in its last item, to what is behind."""
        root = (last[0], last[0])
        if last not in self.within:
            self.within[last] = self.ways_onward([last], root)
        self.places[(len(self.contexts), root)] = True
        self.contexts.append((self.within[last], last, behind))
