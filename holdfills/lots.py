"""Lots: sets of places, that lead a row to the greatest, over the sets, of the least thing in the set."""

from holdfills.basics import all_rows, is_below, is_tuple_of, plain_row
from holdfills.errors import BadLot, BadParameter, NoRow
from holdfills.partings import need_size


def is_ascending(row):
    """Tell whether each thing of a row is greater than the one ahead of it."""
    return all([row[number] < row[number + 1] for number in range(len(row) - 1)])


def is_within(one, other):
    """Tell whether each place of one set is in the other one."""
    return all([place in other for place in one])


def is_set(size, value):
    """Tell whether a value is a set of at least one of so many places."""
    if not isinstance(value, tuple) or not 1 <= len(value) <= size:
        return False
    return all([is_below(place, size) for place in value]) and is_ascending(value)


def is_lot(size, value):
    """Tell whether a value is a lot of so many places."""
    if not isinstance(value, tuple) or len(value) == 0:
        return False
    if not all([is_set(size, places) for places in value]) or not is_ascending(value):
        return False
    # They ascend, so that there are few enough of them to hold each against each.
    inside = [one for one in value for other in value if one != other and is_within(one, other)]
    return len(inside) == 0


def plain_lot(lot):
    """Return the lot in plain tuples that is like a checked one."""
    return tuple([plain_row(places) for places in lot])


def need_lot(size, lot):
    """Return a lot of so many places; BadLot(lot) for anything else."""
    size = need_size(size)
    if not is_lot(size, lot):
        raise BadLot(lot)
    return plain_lot(lot)


def rows_of_bits(size):
    """Return the ascending list of all rows of so many zeros and ones."""
    return all_rows([[0, 1] for _ in range(size)])


def ones_of(row):
    """Return the tuple of the places of a row at which something else than 0 is."""
    return tuple([place for place, thing in enumerate(row) if thing != 0])


def all_lots(size):
    """Return the ascending tuple of all lots of so many places."""
    size = need_size(size)
    found = [()]
    # The first row has no ones: its places are no set.
    for places in sorted([ones_of(row) for row in rows_of_bits(size)[1:]]):
        found = found + [lot + (places,) for lot in found if is_lot(size, lot + (places,))]
    return tuple(sorted(found)[1:])


def lot_led(lot, row):
    """Return the thing to which a checked lot leads a row of things."""
    return max([min([row[place] for place in places]) for places in lot])


def answers_of(size, lot):
    """Return what a checked lot leads each row of zeros and ones to."""
    return tuple([lot_led(lot, row) for row in rows_of_bits(size)])


def lot_rows(size, lot):
    """Return what the lot leads each row of zeros and ones to, in ascending order of these rows."""
    size = need_size(size)
    return answers_of(size, need_lot(size, lot))


def need_answers(size, rows):
    """Return a tuple with 0 or 1 for each row of so many zeros and ones; BadParameter(rows) for anything else."""
    if not is_tuple_of(rows, len(rows_of_bits(size))):
        raise BadParameter(rows)
    if not all([is_below(answer, 2) for answer in rows]):
        raise BadParameter(rows)
    return plain_row(rows)


def least_sets(size, answers):
    """Return those sets of places, ascending, whose ones are led to 1, and within which there is no other one.

    If the answers are those of a lot, this is the lot.
    """
    taken = [ones_of(row) for row, answer in zip(rows_of_bits(size), answers) if answer == 1]
    least = [one for one in taken if all([one == other or not is_within(other, one) for other in taken])]
    return tuple(sorted(least))


def lot_of(size, rows):
    """Return the lot that leads the rows of zeros and ones to these answers; NoRow() if there is none."""
    size = need_size(size)
    rows = need_answers(size, rows)
    lot = least_sets(size, rows)
    if not is_lot(size, lot) or answers_of(size, lot) != rows:
        raise NoRow()
    return lot
