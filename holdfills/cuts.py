"""Cuts of a holder into two that multiplied are it, and its holes: shapes with one place open."""

from holdfills.basics import is_thing, is_tuple_of, need_index, plain_row
from holdfills.counts import divided
from holdfills.errors import BadParameter, TooGreat
from holdfills.holders import MOST_SHAPES, need_holder

MOST_CUT = 24


def ascending_rows(length, most):
    """Return the list of all ascending rows of so many numbers from 0 to `most`, alike ones among them."""
    rows = [()]
    for _ in range(length):
        rows = [row + (size,) for row in rows for size in range(max(row, default=0), most + 1)]
    return rows


def all_cuts(holder):
    """Return the ascending tuple of all cuts of a holder; TooGreat(24) for more than 24 shapes."""
    holder = need_holder(holder)
    if len(holder) > MOST_CUT:
        raise TooGreat(MOST_CUT)
    # One of the two has few shapes: not more than the square root of those of the holder.
    lengths = [few for few in range(1, len(holder) + 1) if few * few <= len(holder) and len(holder) % few == 0]
    found = []
    for few in lengths:
        for one in ascending_rows(few, max(holder)):
            other = divided(holder, one)
            if other is not None:
                found.append((min(one, other), max(one, other)))
    return tuple(sorted(set(found)))


def holes(holder):
    """Return the holder with a shape for each place of each shape: the shape without this place."""
    holder = need_holder(holder)
    if sum(holder) > MOST_SHAPES:
        raise TooGreat(MOST_SHAPES)
    return tuple([size - 1 for size in holder for _ in range(size)])


def need_rest(size, things):
    """Return a tuple of so many things; BadParameter(things) for anything else."""
    if not is_tuple_of(things, size) or not all([is_thing(thing) for thing in things]):
        raise BadParameter(things)
    return plain_row(things)


def hole_filled(holder, shape, place, things, thing):
    """Return the filling of the shape with `thing` at the place, and the things at its other places."""
    holder = need_holder(holder)
    shape = need_index(len(holder), shape)
    place = need_index(holder[shape], place)
    things = need_rest(holder[shape] - 1, things)
    if not is_thing(thing):
        raise BadParameter(thing)
    return shape, things[:place] + (int(thing),) + things[place:]
