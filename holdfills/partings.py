"""Partings and rankings: which things of a row are alike, and which are greater.

Both are called *views* here: rows of numbers that are their own parting or their
own ranking. The parameter `look` is the function that gives the view of a row,
`parted` or `ranked`.
"""

from holdfills.basics import all_rows, is_below, is_thing, plain_row
from holdfills.errors import BadParameter, BadParting, BadRanking, TooGreat
from holdfills.holders import MOST_PLACES

MOST_LOOKED = 4


def parted(row):
    """Return the parting of a checked row."""
    classes = {}
    for thing in row:
        if thing not in classes:
            classes[thing] = len(classes)
    return tuple([classes[thing] for thing in row])


def ranked(row):
    """Return the ranking of a checked row."""
    ascending = sorted(set(row))
    return tuple([ascending.index(thing) for thing in row])


def is_short_row(value):
    """Tell whether a value is a row of 0 to 12 things."""
    if not isinstance(value, tuple) or len(value) > MOST_PLACES:
        return False
    return all([is_thing(thing) for thing in value])


def is_view(look, value):
    """Tell whether a value is a view of 0 to 12 places."""
    return is_short_row(value) and look(plain_row(value)) == plain_row(value)


def need_parting(parting):
    """Return a parting; BadParting(parting) for anything else."""
    if not is_view(parted, parting):
        raise BadParting(parting)
    return plain_row(parting)


def need_ranking(ranking):
    """Return a ranking; BadRanking(ranking) for anything else."""
    if not is_view(ranked, ranking):
        raise BadRanking(ranking)
    return plain_row(ranking)


def need_row(row):
    """Return a row of 0 to 12 things; BadParameter(row) for anything else."""
    if not is_short_row(row):
        raise BadParameter(row)
    return plain_row(row)


def parting_of(row):
    """Return the parting in which two places are in one class exactly if their things are alike."""
    return parted(need_row(row))


def ranking_of(row):
    """Return the ranking in which each place has as rank how many unlike lesser things there are."""
    return ranked(need_row(row))


def need_size(size):
    """Return a number of places; BadParameter(size) if it is none, TooGreat(4) for more than 4."""
    if not is_below(size, MOST_PLACES + 1):
        raise BadParameter(size)
    if size > MOST_LOOKED:
        raise TooGreat(MOST_LOOKED)
    return int(size)


def list_views(look, size):
    """Return the ascending list of all views of so many places, at most 4."""
    numbers = list(range(size))
    rows = all_rows([numbers for _ in range(size)])
    return [row for row in rows if look(row) == row]


def all_partings(size):
    """Return the ascending tuple of all partings of so many places."""
    return tuple(list_views(parted, need_size(size)))


def all_rankings(size):
    """Return the ascending tuple of all rankings of so many places."""
    return tuple(list_views(ranked, need_size(size)))
