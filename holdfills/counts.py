"""Counting: how many fillings holders have FOR ALL numbers of things, taking off and dividing."""

from holdfills.errors import BadParameter, NoRow
from holdfills.holders import how_many_fillings, need_holder


def fillings_line(holder):
    """Return how many shapes have each number of places, from 0 to the greatest one."""
    holder = need_holder(holder)
    return tuple([holder.count(size) for size in range(max(holder, default=-1) + 1)])


def same_counts(one, other):
    """Tell whether FOR ALL n two holders have as many fillings by n unlike things."""
    one = need_holder(one)
    other = need_holder(other)
    return sorted(one) == sorted(other)


def counts_apart(one, other):
    """Return the least n for which two holders have unlike numbers of fillings; NoRow() if there is none."""
    if same_counts(one, other):
        raise NoRow()
    one = need_holder(one)
    other = need_holder(other)
    many = 0
    # It ends: they have unlike plain forms, so some n tells them apart, and none of these is great.
    while how_many_fillings(one, many) == how_many_fillings(other, many):
        many += 1
    return many


def taken_off(one, other):
    """Return the holder, in plain form, that the other one is added to in the first one; NoRow() if there is none."""
    one = need_holder(one)
    other = need_holder(other)
    left = sorted(one)
    for size in other:
        if size not in left:
            raise NoRow()
        left.remove(size)
    return tuple(left)


def divided(one, other):
    """Return the holder, in plain form, by which the other one, not (), is multiplied in the first one, or None."""
    left = sorted(one)
    least = min(other)
    found = []
    while left:
        # The least shape that is left can only be made of the least ones.
        part = left[0] - least
        for size in other:
            if part < 0 or part + size not in left:
                return None
            left.remove(part + size)
        found.append(part)
    return tuple(found)


def quotient(one, other):
    """Return the holder, in plain form, by which the other one is multiplied in the first one; NoRow() if none is."""
    one = need_holder(one)
    parts = need_holder(other)
    if not parts:
        raise BadParameter(other)
    found = divided(one, parts)
    if found is None:
        raise NoRow()
    return found
