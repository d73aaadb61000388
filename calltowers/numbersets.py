"""Sets of numbers that are numbers themselves: the member n counts 1 << n."""


def set_of(numbers):
    """The set of these numbers."""
    found = 0
    for number in numbers:
        found |= 1 << number
    return found


def members(numbers):
    """The list of the members of a set, in ascending order."""
    found = []
    while numbers:
        lowest = numbers & -numbers
        found.append(lowest.bit_length() - 1)
        numbers ^= lowest
    return found
