"""The order of states and symbols, and of all that is made of them (point 13)."""


def rank(thing):
    """A key for sorting None, numbers, strings and tuples of such things."""
    if thing is None:
        return (0,)
    if isinstance(thing, int):
        return (1, thing)
    if isinstance(thing, str):
        return (2, thing)
    return (3, tuple([rank(part) for part in thing]))
