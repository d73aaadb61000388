"""The product of a program and a promise: its marked endless plays are the runs that break the promise (point 31)."""

from calltowers.claims import NO_CALL, RETURNING, STAYING, Claims
from calltowers.endsearch import searched
from calltowers.numbered import Numbered, Numbering
from calltowers.pushdowns import head_of, rules_of


def product(program, promise):
    """The tuple (rules, origins, head): the rules, for each of them the index of the program's rule, the first head."""
    maker = ProductRules(rules_of(program), head_of(program))
    start = maker.first_head(promise)
    # The search asks for the rules of all heads that can be met, and of no others.
    searched(maker, [start])
    return maker.told_rules() + (maker.told_head(start),)


class ProductRules:
    """The rules of a product as a pushdown in numbers; those of a head are made when it is asked for them.

    A state is (state of the program, claims, late): the claims are about the step from here, and late are those
    that have been put off at each step since the last marked one. A symbol is (frame, claims, late): the frame
    comes back, and at its call these claims were made about the step by which it does so, the late ones being put
    off there; or the frame never comes back, and its claims are None.

    Only steps of frames that never come back are marked: a play that waits in vain for a frame to come back has no
    more marks. In frames that come back, claims along steps across are not late, since these steps end there.
    """

    def __init__(self, rules, head):
        self.pushdown = Numbered(rules, (head,))
        self.start = head
        self.marks = [rule[4] for rule in rules]
        self.claims = Claims()
        self.states = Numbering()
        self.symbols = Numbering()
        self.heads = Numbering()
        # For each head that was asked for its rules: (index of the program's rule, mark, state, symbols).
        self.rows = {}

    def first_head(self, promise):
        """The number of the head with the claim that a promise is not true."""
        p, s = self.start
        claims = self.claims.set_of(self.claims.claim_of(promise, False))
        state = self.states.place_of((self.pushdown.state_at[p], claims, 0))
        return self.head_at(state, self.symbols.place_of((self.pushdown.symbol_at[s], None, 0)))

    def head_at(self, p, s):
        """The number of the head of a state and a symbol that are numbers."""
        return self.heads.place_of((p, s))

    def rules_from(self, head):
        """The list of the rules of a head: (index, mark, state, symbols)."""
        if head not in self.rows:
            p, s = self.heads.things[head]
            state, symbol = self.states.things[p], self.symbols.things[s]
            found = {}
            for rule in self.pushdown.rules_from(self.pushdown.head_at(state[0], symbol[0])):
                for row in self.rows_for(rule, state, symbol):
                    found[row] = True
            self.rows[head] = list(found)
        return self.rows[head]

    def rows_for(self, rule, state, symbol):
        """The list of the rules of the product that are made of one rule of the program."""
        if not rule[3]:
            return self.back_rows(rule, state, symbol)
        if len(rule[3]) == 1:
            return self.plain_rows(rule, state, symbol)
        rows = self.returning_rows(rule, state, symbol)
        # Within a frame that comes back each call comes back.
        return rows + self.staying_rows(rule, state, symbol) if symbol[1] is None else rows

    def back_rows(self, rule, state, symbol):
        """The rules for coming back: of this step also claims are true that were made at the call."""
        index, _, q, _ = rule
        if symbol[1] is None:
            return []
        late = state[2] | symbol[2]
        rows = []
        for ahead, _, still in self.claims.choices(state[1] | symbol[1], self.marks[index], NO_CALL):
            rows.append((index, 0, self.states.place_of((q, ahead, late & still)), ()))
        return rows

    def plain_rows(self, rule, state, symbol):
        """The rules for a step that is no call and does not come back."""
        index, _, q, w = rule
        place = self.symbols.place_of((w[0],) + symbol[1:])
        rows = []
        for ahead, _, still in self.claims.choices(state[1], self.marks[index], NO_CALL):
            mark, late = counted(state, still, symbol)
            rows.append((index, mark, self.states.place_of((q, ahead, late)), (place,)))
        return rows

    def returning_rows(self, rule, state, symbol):
        """The rules for a call that comes back: what is late along steps across waits in the frame."""
        index, _, q, w = rule
        below = self.symbols.place_of((w[1],) + symbol[1:])
        across = self.claims.across
        rows = []
        for ahead, beyond, still in self.claims.choices(state[1], self.marks[index], RETURNING):
            mark, late = counted(state, still, symbol)
            above = self.symbols.place_of((w[0], beyond, late & across))
            rows.append((index, mark, self.states.place_of((q, ahead, late & ~across)), (above, below)))
        return rows

    def staying_rows(self, rule, state, symbol):
        """The rules for a call that never comes back."""
        index, _, q, w = rule
        places = tuple([self.symbols.place_of((frame, None, 0)) for frame in w])
        rows = []
        for ahead, _, still in self.claims.choices(state[1], self.marks[index], STAYING):
            mark, late = counted(state, still, symbol)
            rows.append((index, mark, self.states.place_of((q, ahead, late)), places))
        return rows

    def told_head(self, head):
        """The head that has this number."""
        p, s = self.heads.things[head]
        near, claims, late = self.states.things[p]
        frame, beyond, waiting = self.symbols.things[s]
        return ((self.pushdown.states[near], claims, late), (self.pushdown.symbols[frame], beyond, waiting))

    def told_rules(self):
        """The tuple of all rules that were asked for, and the tuple of the indexes of the program's rules."""
        states = [(self.pushdown.states[p], claims, late) for p, claims, late in self.states.things]
        symbols = [(self.pushdown.symbols[s], claims, late) for s, claims, late in self.symbols.things]
        rules = []
        origins = []
        for head in self.rows:
            p, s = self.heads.things[head]
            for index, mark, q, w in self.rows[head]:
                rules.append((states[p], symbols[s], states[q], tuple([symbols[place] for place in w]), mark))
                origins.append(index)
        return (tuple(rules), tuple(origins))


def counted(state, still, symbol):
    """The mark of a step that puts claims off still, and what is late behind it.

    A step is marked if nothing is late any more; then what it puts off is late from here on.
    """
    left = state[2] & still
    if left or symbol[1] is not None:
        return 0, left
    return 1, still
