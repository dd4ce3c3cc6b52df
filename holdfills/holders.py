"""Holders: tuples that tell how many places each shape has."""

from holdfills.basics import is_below, need_many, plain_row, power
from holdfills.errors import BadHolder

MOST_SHAPES = 60
MOST_PLACES = 12


def is_holder(value):
    """Tell whether a value is a holder."""
    if not isinstance(value, tuple) or len(value) > MOST_SHAPES:
        return False
    return all([is_below(size, MOST_PLACES + 1) for size in value])


def need_holder(value):
    """Return a holder; BadHolder(value) for anything else."""
    if not is_holder(value):
        raise BadHolder(value)
    return plain_row(value)


def plain_form(holder):
    """Return the holder with its numbers ascending."""
    return tuple(sorted(need_holder(holder)))


def how_many_fillings(holder, many):
    """Return how many fillings by `many` things there are, of a holder that is checked."""
    return sum([power(many, size) for size in holder])


def count_fillings(holder, many):
    """Return how many fillings by `many` unlike things there are."""
    holder = need_holder(holder)
    return how_many_fillings(holder, need_many(many))
