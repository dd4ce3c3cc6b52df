"""Sorting: risers that lead things to the same things in ascending order, and networks of steps that try to."""

from holdfills.basics import is_below, is_tuple_of
from holdfills.errors import BadParameter, NoRow
from holdfills.lots import least_sets, ones_of, rows_of_bits
from holdfills.partings import need_size
from holdfills.risers import need_riser, riser_led

MOST_STEPS = 60


def unsorted_rows(size, riser):
    """Return the list of the rows of zeros and ones that a riser does not lead to ascending order."""
    size = need_size(size)
    riser = need_riser((size,), (size,), riser)
    return [row for row in rows_of_bits(size) if riser_led(riser, (0, row)) != (0, tuple(sorted(row)))]


def is_sorter(size, riser):
    """Tell whether a riser leads each filling to the same things in ascending order."""
    # What sorts all rows of zeros and ones sorts all rows.
    return len(unsorted_rows(size, riser)) == 0


def unsorted_row(size, riser):
    """Return a row of zeros and ones that is not led to ascending order; NoRow() for a sorter."""
    found = unsorted_rows(size, riser)
    if not found:
        raise NoRow()
    return found[0]


def sets_of_many(size, many):
    """Return the ascending tuple of all sets of so many of `size` places."""
    return tuple(sorted([ones_of(row) for row in rows_of_bits(size) if sum(row) == many]))


def sorter(size):
    """Return the riser that leads each filling to the same things in ascending order."""
    size = need_size(size)
    # The thing at a place is the greatest one than which so many, it and those behind it, are not less.
    return ((0, tuple([sets_of_many(size, size - place) for place in range(size)])),)


def is_step(size, value):
    """Tell whether a value is a pair of places, the first one less than the second one."""
    if not is_tuple_of(value, 2):
        return False
    return is_below(value[1], size) and is_below(value[0], value[1])


def need_steps(size, steps):
    """Return a tuple of at most 60 pairs of places; BadParameter(steps) for anything else."""
    if not isinstance(steps, tuple) or len(steps) > MOST_STEPS:
        raise BadParameter(steps)
    if not all([is_step(size, step) for step in steps]):
        raise BadParameter(steps)
    return tuple([(int(low), int(high)) for low, high in steps])


def stepped(row, steps):
    """Return the list that comes of a row if, step after step, the lesser thing is put to the first place."""
    things = list(row)
    for low, high in steps:
        if things[low] > things[high]:
            things[low], things[high] = things[high], things[low]
    return things


def network(size, steps):
    """Return the riser that, step after step, puts the lesser of two things to the first place."""
    size = need_size(size)
    steps = need_steps(size, steps)
    led_rows = [stepped(row, steps) for row in rows_of_bits(size)]
    return ((0, tuple([least_sets(size, [row[place] for row in led_rows]) for place in range(size)])),)
