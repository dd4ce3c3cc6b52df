"""What the other files share: kinds of values, powers, rules, rows and the bound of lists."""

from holdfills.errors import BadIndex, BadParameter, TooGreat

MOST_THING = 10 ** 60
MOST_LISTED = 400


def is_below(value, end):
    """Tell whether a value is an integer from 0 to end - 1."""
    return isinstance(value, int) and not isinstance(value, bool) and 0 <= value < end


def is_thing(value):
    """Tell whether a value is a thing."""
    return is_below(value, MOST_THING + 1)


def is_tuple_of(value, size):
    """Tell whether a value is a tuple with so many things."""
    return isinstance(value, tuple) and len(value) == size


def plain_row(row):
    """Return the plain tuple of plain integers that is like a row of them."""
    return tuple([int(number) for number in row])


def need_index(count, value):
    """Return the number of one of so many; BadIndex(value) for anything else."""
    if not is_below(value, count):
        raise BadIndex(value)
    return int(value)


def need_many(many):
    """Return how many unlike things are told, an integer from 0 to 10 ** 60."""
    # A number of things has the bounds that a thing has.
    if not is_thing(many):
        raise BadParameter(many)
    return int(many)


def need_from_one(most, value):
    """Return an integer from 1 to `most`; BadParameter(value) for anything else."""
    if not is_below(value, most + 1) or value == 0:
        raise BadParameter(value)
    return int(value)


def need_listable(count):
    """Refuse to list or to try more things than the document allows."""
    if count > MOST_LISTED:
        raise TooGreat(MOST_LISTED)


def power(base, exponent):
    """Return an integer with an exponent from 0 on."""
    result = 1
    for _ in range(exponent):
        result = result * base
    return result


def first_broken(rules, *parts):
    """Return the first place that is broken, the least rule first; None if all rules are kept.

    Each rule is a function that returns the list of the places at which these parts break it.
    """
    for rule in rules:
        # A rule asks only what is there if those ahead of it are kept.
        broken = rule(*parts)
        if broken:
            return broken[0]
    return None


def all_rows(lots):
    """Return the list of all tuples with one thing from each lot, ascending if each lot is."""
    rows = [()]
    for lot in lots:
        rows = [row + (thing,) for row in rows for thing in lot]
    return rows


def cut_row(row, sizes):
    """Return the list of the parts of a row, in their order, that have these sizes."""
    parts = []
    start = 0
    for size in sizes:
        parts.append(tuple(row[start:start + size]))
        start += size
    return parts
