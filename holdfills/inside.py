"""One holder put into another: a shape of the first one, with a shape of the second one at each of its places.

A shape (I, SHAPES) of this holder is a filling of the first one by the shapes of the
second one, and has the number that the filling has among all of them, ascending. A
filling of it is kept as a filling of the first holder by fillings of the second one,
too: a pair (SHAPE, FILLINGS).
"""

from holdfills.basics import cut_row, is_tuple_of, need_index
from holdfills.deeds import beside, in_both, in_each, multiplied
from holdfills.deeds import need_both, need_few_places, need_few_shapes, need_four
from holdfills.errors import BadFilling, BadParameter
from holdfills.fillings import is_filling, list_fillings, need_filling, plain_filling
from holdfills.holders import how_many_fillings, need_holder
from holdfills.programs import led


def put_into(one, other):
    """Return the holder with a shape for each shape of `one` and a shape of `other` for each of its places."""
    one = need_holder(one)
    other = need_holder(other)
    need_few_shapes(how_many_fillings(one, len(other)))
    return need_few_places([sum([other[part] for part in parts]) for _, parts in list_parts(one, other)])


def number_into(one, other, shape, shapes):
    """Return the number of a shape of `one` with shapes of `other` at its places, all of them checked."""
    number = 0
    for part in shapes:
        number = number * len(other) + part
    return how_many_fillings(one[:shape], len(other)) + number


def list_parts(one, other):
    """Return the list of the shapes of `other` put into `one`: pairs of a shape and shapes, by their numbers."""
    return list_fillings(one, len(other))


def parts_at(one, other, number):
    """Return the shape of `one`, and the shapes of `other` at its places, that have a checked number."""
    return list_parts(one, other)[number]


def need_parts(one, other, shape, shapes):
    """Return a tuple with a shape of `other` for each place of a checked shape of `one`."""
    if not is_tuple_of(shapes, one[shape]):
        raise BadParameter(shapes)
    return tuple([need_index(len(other), part) for part in shapes])


def shape_into(one, other, shape, shapes):
    """Return the number of the shape of `one` with these shapes of `other` at its places."""
    one = need_holder(one)
    other = need_holder(other)
    shape = need_index(len(one), shape)
    shapes = need_parts(one, other, shape, shapes)
    put_into(one, other)
    return number_into(one, other, shape, shapes)


def parts_into(one, other, number):
    """Return the shape of `one`, and the shapes of `other` at its places, that have the number."""
    number = need_index(len(put_into(one, other)), number)
    return parts_at(need_holder(one), need_holder(other), number)


def filled_into(one, other, shape, fillings):
    """Return the filling of `other` put into `one` that is a shape of `one` with these fillings at its places."""
    number = number_into(one, other, shape, [part for part, _ in fillings])
    return number, tuple([thing for _, things in fillings for thing in things])


def taken_out(one, other, filling):
    """Return the shape of `one` and the tuple of the fillings of `other` at its places, of a checked filling."""
    shape, shapes = parts_at(one, other, filling[0])
    rows = cut_row(filling[1], [other[part] for part in shapes])
    return shape, tuple([(part, things) for part, things in zip(shapes, rows)])


def taken_apart(filling):
    """Return the shape and the shapes at its places of a filling by fillings, and the list of the things of these."""
    shape, fillings = filling
    parts = tuple([part for part, _ in fillings])
    return (shape, parts), [thing for _, things in fillings for thing in things]


def filling_into(one, other, shape, fillings):
    """Return the filling that is a shape of `one` with these fillings of `other` at its places."""
    one = need_holder(one)
    other = need_holder(other)
    shape = need_index(len(one), shape)
    if not is_tuple_of(fillings, one[shape]):
        raise BadParameter(fillings)
    for filling in fillings:
        if not is_filling(other, filling):
            raise BadFilling(filling)
    put_into(one, other)
    return filled_into(one, other, shape, [plain_filling(filling) for filling in fillings])


def fillings_out(one, other, filling):
    """Return the shape of `one` and the tuple of the fillings of `other` at its places."""
    filling = need_filling(put_into(one, other), filling)
    return taken_out(need_holder(one), need_holder(other), filling)


def all_own(one, other):
    """Return the list of the own fillings of all shapes of `other` put into `one`, taken out."""
    found = []
    for number, size in enumerate(put_into(one, other)):
        found.append(taken_out(one, other, (number, tuple(range(size)))))
    return found


def both_into(holders, first, second):
    """Return the program that does the first one with fillings as things, and the second one in each place."""
    holders, first, second = need_both(put_into, holders, first, second)
    found = []
    for own in all_own(holders[0], holders[2]):
        shape, fillings = led(first, own)
        found.append(filled_into(holders[1], holders[3], shape, [led(second, filling) for filling in fillings]))
    return tuple(found)


def regrouped(one, middle, other):
    """Return the program that regroups what is put into `one`: first `middle`, then `other`, or both put together."""
    one = need_holder(one)
    middle = need_holder(middle)
    other = need_holder(other)
    ahead = put_into(one, middle)
    put_into(ahead, other)
    behind = put_into(middle, other)
    put_into(one, behind)
    found = []
    for number, fillings in all_own(ahead, other):
        shape, parts = parts_at(one, middle, number)
        groups = cut_row(fillings, [middle[part] for part in parts])
        inner = [filled_into(middle, other, part, group) for part, group in zip(parts, groups)]
        found.append(filled_into(one, behind, shape, inner))
    return tuple(found)


def spread(one, other, inner):
    """Return the program from a product, into which `inner` is put, to the product of both, into which it is put."""
    one = need_holder(one)
    other = need_holder(other)
    inner = need_holder(inner)
    both = multiplied(one, other)
    put_into(both, inner)
    ahead = put_into(one, inner)
    behind = put_into(other, inner)
    multiplied(ahead, behind)
    found = []
    for number, fillings in all_own(both, inner):
        shape, more = divmod(number, len(other))
        first = filled_into(one, inner, shape, fillings[:one[shape]])
        second = filled_into(other, inner, more, fillings[one[shape]:])
        found.append(in_both(first, second, len(behind)))
    return tuple(found)


def crossed(holders):
    """Return the program from B put into A, beside D put into C, to B beside D, put into A beside C."""
    one, one_inner, other, other_inner = need_four(holders)
    ahead = put_into(one, one_inner)
    behind = put_into(other, other_inner)
    beside(ahead, behind)
    outer = beside(one, other)
    inner = beside(one_inner, other_inner)
    put_into(outer, inner)
    own_behind = all_own(other, other_inner)
    found = []
    for shape, fillings in all_own(one, one_inner):
        for (more, rest), width in zip(own_behind, behind):
            parts = [in_each(part, away, len(other_inner), width) for part in fillings for away in rest]
            found.append(filled_into(outer, inner, shape * len(other) + more, parts))
    return tuple(found)
