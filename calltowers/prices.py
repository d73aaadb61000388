"""The prices of plays: their calls and rules, and how deep the stack must be (points 45 and 46)."""

from calltowers.journeys import Journey
from calltowers.measures import Heights, Prices
from calltowers.pushdowns import head_of, rules_of

# The state behind the word that is searched; the states of programs are tuples.
SAID = "said"


def few_calls(program, word):
    """A tale with the fewest calls, and then the fewest rules, whose last rule says a word; None if there is none."""
    rules = rules_of(program)
    return Journey(rules, head_of(program), Prices(rules)).tale_saying(word)


def price(rules, tale):
    """The numbers of the calls and of all rules of a tale."""
    parts, items = tale
    measure = Prices(rules)
    prices = []
    for row in parts + (items,):
        total = measure.nothing()
        for item in row:
            total = measure.joined(total, measure.alone(item) if item >= 0 else prices[-1 - item])
        prices.append(total)
    return prices[-1]


def depth_needed(program, word):
    """The least number of frames with which a program can say a word; None if it cannot say it."""
    rules = rules_of(program)
    # Once the word is said the stack is taken away, so that a play that says it is one of an ending.
    said = [(p, s, SAID, (), mark) for p, s, _, _, mark in rules if mark == ("say", word)]
    below = list({w[1]: True for _, _, _, w, _ in rules if len(w) == 2})
    taken = [(SAID, symbol, SAID, (), None) for symbol in below]
    if not said:
        return None
    journey = Journey(tuple(list(rules) + said + taken), head_of(program), Heights())
    ending = (journey.start, 2 * journey.pushdown.state_at[SAID])
    return journey.plays.lengths.get(ending)
