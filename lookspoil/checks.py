"""What arguments are made of, asked of any object whatever.

As everywhere in the package, what is judged is the last argument.
"""


def is_integer(thing):
    """Whether thing is an integer; a flag is none."""
    return isinstance(thing, int) and not isinstance(thing, bool)


def is_below(bound, thing):
    """Whether thing is an integer from 0 to bound - 1."""
    return is_integer(thing) and 0 <= thing < bound


def is_between(least, most, thing):
    """Whether thing is an integer from least to most."""
    return is_integer(thing) and least <= thing <= most


def is_tuple(least, most, thing):
    """Whether thing is a tuple of least to most things."""
    return isinstance(thing, tuple) and least <= len(thing) <= most


def rising(things):
    """Whether each of things that can be compared is greater than the one ahead of it."""
    return all([one < two for one, two in zip(things, things[1:])])


def are_rising_standings(size, thing):
    """Whether thing is an ascending tuple of unlike standings of a kind with size standings."""
    return is_tuple(0, size, thing) and all([is_below(size, standing) for standing in thing]) and rising(thing)


def is_step(thing):
    """Whether thing is a tuple of a word and integers, so that comparing it with a known step is exact."""
    return is_tuple(1, 3, thing) and isinstance(thing[0], str) and all([is_integer(part) for part in thing[1:]])
