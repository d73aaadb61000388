"""Claims about a step of a run: what a promise, or its contrary, asks of this step and of later ones.

In a claim only the kind of a step is denied: what else a promise denies is claimed by a word of its own.
Sets of claims are numbers: the claim with the number n counts 1 << n.
"""

from calltowers.promises import matches

# For each word the one by which the contrary is claimed, of the contraries of the parts.
# ("lasts", f, g): g is true from here on, up to and including a step where f is true, if there is one.
# ("maybe", f): f is true at the step across, if there is one.
# ("along", f, g): as lasts, from each step to the one across from it, as long as there is one.
CONTRARY = {
    "yes": "no",
    "at": "isnot",
    "and": "or",
    "or": "and",
    "next": "next",
    "until": "lasts",
    "over": "maybe",
    "across": "along",
}

# What a step is: no call, a call that comes back, or one that never does.
NO_CALL = 0
RETURNING = 1
STAYING = 2

# A choice is a tuple of three sets: the claims about the next step, those about the step across from here where
# this is a returning call, and those of them that put something off that must come true at last.
NOTHING = (0, 0, 0)


class Claims:
    """The claims that come about from a promise, each one with a number, and the choices that they leave."""

    def __init__(self):
        self.rows = []
        self.numbers = {}
        self.found = {}
        # The claims that put something off along steps across, as a set.
        self.across = 0
        self.a_back = self.claim_at("at", "back", "")
        self.no_back = self.claim_at("isnot", "back", "")

    def claim_at(self, word, first, second):
        """The number of a claim; it gets one if it has none."""
        row = (word, first, second)
        if row not in self.numbers:
            if word == "across":
                self.across |= 1 << len(self.rows)
            self.numbers[row] = len(self.rows)
            self.rows.append(row)
        return self.numbers[row]

    def claim_of(self, promise, truth):
        """The number of the claim that a promise is true, or that it is not."""
        word = promise[0]
        if word == "not":
            return self.claim_of(promise[1], not truth)
        parts = list(promise[1:]) if word == "at" else [self.claim_of(part, truth) for part in promise[1:]]
        first, second = (parts + [None, None])[:2]
        return self.claim_at(word if truth else CONTRARY[word], first, second)

    def set_of(self, claim):
        """The set of the claims of which one consists."""
        word, first, second = self.rows[claim]
        if word == "yes":
            return 0
        return self.set_of(first) | self.set_of(second) if word == "and" else 1 << claim

    def choices(self, claims, mark, turn):
        """The list of the least choices by which a set of claims is true at a step."""
        key = (claims, mark, turn)
        if key not in self.found:
            found = [NOTHING]
            for claim in range(claims.bit_length()):
                if claims >> claim & 1:
                    found = both(found, self.choices_of(claim, mark, turn))
            self.found[key] = found
        return self.found[key]

    def choices_of(self, claim, mark, turn):
        """The list of the least choices by which a claim is true at a step with this mark and turn."""
        word, first, second = self.rows[claim]
        if word in ("yes", "no"):
            return [NOTHING] if word == "yes" else []
        if word in ("at", "isnot"):
            return [NOTHING] if matches(mark, first, second) == (word == "at") else []
        if word == "next":
            return [(self.set_of(first), 0, 0)]
        if word == "over":
            return self.beyond(self.set_of(first), turn, 0)
        if word == "maybe":
            return self.perhaps_beyond(first, turn)
        left = self.choices_of(first, mark, turn)
        right = self.choices_of(second, mark, turn)
        if word == "and":
            return both(left, right)
        if word == "or":
            return either(left, right)
        if word == "until":
            return either(right, both(left, [(1 << claim, 0, 1 << claim)]))
        if word == "lasts":
            return both(right, either(left, [(1 << claim, 0, 0)]))
        if word == "across":
            return either(right, both(left, self.beyond(1 << claim, turn, 1 << claim)))
        return both(right, either(left, self.perhaps_beyond(claim, turn)))

    def beyond(self, claims, turn, late):
        """The choices by which there is a step across, and claims are true there."""
        if turn == STAYING:
            return []
        return [(0, claims, late)] if turn == RETURNING else [(claims | 1 << self.no_back, 0, late)]

    def perhaps_beyond(self, claim, turn):
        """The choices by which a claim is true at the step across, if there is one."""
        if turn == STAYING:
            return [NOTHING]
        if turn == RETURNING:
            return [(0, self.set_of(claim), 0)]
        return [(1 << self.claim_at("or", self.a_back, claim), 0, 0)]


def both(left, right):
    """The least choices that are made of one of each list."""
    return least_choices([(a | d, b | e, c | f) for a, b, c in left for d, e, f in right])


def either(left, right):
    """The least choices of two lists."""
    return least_choices(left + right)


def least_choices(choices):
    """The different choices that contain no other one, in order."""
    different = sorted(set(choices))
    return [choice for choice in different if not any([is_within(other, choice) for other in different])]


def is_within(small, great):
    """Whether one choice is contained in another one, and is not the same."""
    return small != great and all([part | more == more for part, more in zip(small, great)])
