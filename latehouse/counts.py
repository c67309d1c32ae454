"""How many houses may lie, are enough, and are shared by two sets of enough."""

from latehouse.errors import BadCount

MOST_HOUSES = 12


def is_whole(thing, least, most):
    """Tell whether a thing, of any kind, is a whole number from least to most."""
    # Only plain ints: True and False are none, and no other kind's own order is ever run.
    return type(thing) is int and least <= thing <= most


def check_count(count):
    """Refuse what is no number of houses of a town."""
    if not is_whole(count, 1, MOST_HOUSES):
        raise BadCount(f"a town has a whole number of houses from 1 to {MOST_HOUSES}")


def is_house(count, thing):
    """Tell whether a thing, of any kind, is a house of a town of so many houses."""
    return is_whole(thing, 0, count - 1)


def most_liars(count):
    """Return the most liars that a town bears."""
    check_count(count)
    # One is taken off first, since a third itself is too many.
    return (count - 1) // 3


def enough(count):
    """Return the least size with which any two sets of houses share more than the most liars."""
    # Two sets of one size share at the least twice the size less all houses,
    # so twice the size must be more than all houses and the most liars together.
    return (count + most_liars(count)) // 2 + 1


def shared(count):
    """Return how many houses two sets of enough houses share at the least."""
    return 2 * enough(count) - count
