"""Fillings: the number of a shape, and a thing for each of its places."""

from holdfills.basics import MOST_LISTED, MOST_THING, all_rows, is_below, is_thing
from holdfills.basics import is_tuple_of, need_index, need_listable, need_many, plain_row
from holdfills.errors import BadFilling, BadParameter, NoRow
from holdfills.holders import how_many_fillings, need_holder


def is_shaped(holder, value):
    """Tell whether a value is a pair of a shape of a checked holder and a tuple with something for each place."""
    if not is_tuple_of(value, 2):
        return False
    shape, things = value
    return is_below(shape, len(holder)) and is_tuple_of(things, holder[shape])


def is_filling_by(holder, many, value):
    """Tell whether a value is a filling of a checked holder by the things from 0 to many - 1."""
    return is_shaped(holder, value) and all([is_below(thing, many) for thing in value[1]])


def is_filling(holder, value):
    """Tell whether a value is a filling of a checked holder."""
    return is_filling_by(holder, MOST_THING + 1, value)


def plain_filling(filling):
    """Return the filling in plain tuples that is like a checked one."""
    shape, things = filling
    return int(shape), plain_row(things)


def need_filling(holder, filling):
    """Return a filling of the holder; BadFilling(value) for anything else."""
    holder = need_holder(holder)
    if not is_filling(holder, filling):
        raise BadFilling(filling)
    return plain_filling(filling)


def count_unlike(filling):
    """Return how many unlike things a filling has."""
    return len(set(filling[1]))


def list_fillings(holder, many):
    """Return the ascending list of all fillings by the things from 0 to many - 1."""
    found = []
    for shape, size in enumerate(holder):
        # The things are listed for places alone: where there is no place, `many` may be too great to list.
        lots = [list(range(many)) for _ in range(size)]
        found.extend([(shape, things) for things in all_rows(lots)])
    return found


def all_fillings(holder, many):
    """Return the ascending tuple of all fillings by the things from 0 to many - 1."""
    holder = need_holder(holder)
    many = need_many(many)
    need_listable(how_many_fillings(holder, many))
    return tuple(list_fillings(holder, many))


def own_filling(holder, shape):
    """Return the filling of a shape with the thing P at the place P."""
    holder = need_holder(holder)
    shape = need_index(len(holder), shape)
    return shape, tuple(range(holder[shape]))


def need_names(names):
    """Return a tuple of at most 400 things; BadParameter(names) for anything else."""
    if not isinstance(names, tuple) or len(names) > MOST_LISTED:
        raise BadParameter(names)
    if not all([is_thing(name) for name in names]):
        raise BadParameter(names)
    return plain_row(names)


def renamed(holder, filling, names):
    """Return the filling with names[T] for each thing T; NoRow() if one has no name."""
    shape, things = need_filling(holder, filling)
    names = need_names(names)
    if not all([thing < len(names) for thing in things]):
        raise NoRow()
    return shape, tuple([names[thing] for thing in things])
