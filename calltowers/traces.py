"""The traces of programs: nested words of the letters of their plays (points 49 and 50)."""

from calltowers.alike import merged
from calltowers.endsearch import searched
from calltowers.flow import points
from calltowers.nestmoves import Moves
from calltowers.numbered import Numbered
from calltowers.pushdowns import head_of, rules_of
from calltowers.relations import Relations
from calltowers.wordsearch import least_word
from calltowers.wordviews import Apart, Missed

QUIET_WORD = "quiet"


def names_of(program):
    """The names of the procedures and of the words that a program says anywhere, and quiet, ascending."""
    names = {proc: True for proc in program["procs"]}
    names[QUIET_WORD] = True
    for proc in program["procs"]:
        for statement, _, _, _ in points(program["procs"][proc][2]):
            if statement[0] == "say":
                names[statement[1]] = True
    return tuple(sorted(names))


def trace_machine(program):
    """The nested machine that takes exactly the traces of a program."""
    return TraceMaker(rules_of(program), head_of(program)).machine()


class TraceMaker:
    """The moves of a trace machine: its nodes are the heads that are met, and one more where the program has ended."""

    def __init__(self, rules, head):
        self.marks = [rule[4] for rule in rules]
        self.pushdown = Numbered([(p, s, q, w, 0) for p, s, q, w, _ in rules], (head,))
        self.start = self.pushdown.number_of(head)
        heads = sorted(searched(self.pushdown, [self.start]).exits)
        self.node_at = {near: at for at, near in enumerate(heads)}
        # For each procedure that is called the frames that wait for it to come back.
        self.waiting = {}
        for near in heads:
            for index, _, _, w in self.pushdown.rules_from(near):
                if len(w) == 2:
                    self.waiting.setdefault(self.marks[index][1], {})[w[1]] = True

    def machine(self):
        """The machine; each of its nodes is final, since a trace can end anywhere."""
        moves = []
        for near in self.node_at:
            for row in self.pushdown.rules_from(near):
                moves.extend(self.moves_of(near, row))
        nodes = tuple(range(len(self.node_at) + 1))
        return ((self.node_at[self.start],), tuple(moves), nodes)

    def moves_of(self, near, row):
        """The list of the moves that are made of a rule with this head."""
        index, _, q, w = row
        kind, name = self.marks[index]
        node = self.node_at[near]
        if kind == "back":
            return self.backs_of(node, name, q)
        target = self.node_at[self.pushdown.head_at(q, w[0])]
        if kind == "call":
            return [("call", node, name, target, w[1])]
        return [("plain", node, name if kind == "say" else QUIET_WORD, target)]

    def backs_of(self, node, proc, q):
        """The list of the moves by which a procedure comes back: to frames that wait for it, or the program ends."""
        moves = [("back", node, proc, None, len(self.node_at))]
        for frame in sorted(self.waiting.get(proc, {})):
            behind = self.pushdown.head_at(q, frame)
            if behind in self.node_at:
                moves.append(("back", node, proc, frame, self.node_at[behind]))
        return moves


def breach(program, machine):
    """The shortest and least trace of a program that a machine does not take; None if it takes all of them."""
    return least_word(Missed(traces_of(program), Relations(Moves(merged(machine)))))


def apart(first, second):
    """The shortest and least word that is a trace of exactly one of two programs; None if there is none."""
    return least_word(Apart(Relations(traces_of(first)), Relations(traces_of(second))))


def traces_of(program):
    """The moves of a machine that takes exactly the traces of a program, and is as small as can be seen."""
    return Moves(merged(trace_machine(program)))
