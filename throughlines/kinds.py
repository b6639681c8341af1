"""Of which kind a thing is: looked at wherever any thing may be handed in."""

LONGEST_NAME = 8


def is_whole(thing):
    """Whether it is a whole number: True and False are ints, but none."""
    return isinstance(thing, int) and not isinstance(thing, bool)


def is_whole_between(thing, least, most):
    return is_whole(thing) and least <= thing <= most


def is_name(thing):
    if not isinstance(thing, str) or not 1 <= len(thing) <= LONGEST_NAME:
        return False
    # islower and isalpha would take letters beyond a to z, too.
    return all(["a" <= letter <= "z" for letter in thing])


def is_tuple(thing, fewest, most):
    """Whether it is a tuple of at least fewest and at most most things."""
    return isinstance(thing, tuple) and fewest <= len(thing) <= most


def is_pair_of_lists(thing):
    return is_tuple(thing, 2, 2) and all([isinstance(half, list) for half in thing])


def all_unlike(things):
    """Whether no two of them are alike: names, or tuples of names."""
    return len(set(things)) == len(things)
