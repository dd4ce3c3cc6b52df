"""Windows: what is seen at each stand, and where one comes by putting a view there.

A window of so many views is a life on a holder with a shape for each view, and a place of
each shape for each view: a stand shows the view that is seen, and goes on by putting one.
"""

from math import factorial

from holdfills.basics import is_below, is_tuple_of, need_from_one, need_listable, plain_row
from holdfills.errors import BadWindow
from holdfills.holders import MOST_PLACES
from holdfills.lifts import broken_by, need_kept
from holdfills.lives import need_stands


def need_views(views):
    """Return a number of views, an integer from 1 to 12; BadParameter(views) for anything else."""
    return need_from_one(MOST_PLACES, views)


def land_of_views(views):
    """Return the land of a checked number of views."""
    rows = tuple([(there, tuple(range(views))) for there in range(views)])
    return (views,) * views, tuple([(here, rows) for here in range(views)])


def window_land(views):
    """Return the land with a shape for each view, from each of which each view is seen once."""
    return land_of_views(need_views(views))


def is_row(length, end, value):
    """Tell whether a value is a tuple of so many integers from 0 to end - 1."""
    return is_tuple_of(value, length) and all([is_below(number, end) for number in value])


def is_formed(stands, views, value):
    """Tell whether a value has the form of a window."""
    if not is_tuple_of(value, 2):
        return False
    seen, put = value
    return is_row(stands, views, seen) and is_tuple_of(put, stands) and all([is_row(views, stands, row) for row in put])


def checked_window(stands, views, window):
    """Return a window of checked numbers of stands and views."""
    if not is_formed(stands, views, window):
        raise BadWindow(())
    seen, put = plain_row(window[0]), tuple([plain_row(row) for row in window[1]])
    # The rules of windows are those of lives that keep the standing, with the same numbers.
    broken = broken_by(land_of_views(views)[1], tuple(zip(seen, put)))
    if broken is not None:
        raise BadWindow(broken)
    return seen, put


def need_window(stands, views, window):
    """Return a window; BadWindow with () or the first broken rule for anything else."""
    stands = need_stands(stands)
    views = need_views(views)
    return checked_window(stands, views, window)


def window_life(stands, views, window):
    """Return the life in which each stand shows what it sees, and goes on to where one comes by putting a view."""
    seen, put = need_window(stands, views, window)
    return tuple(zip(seen, put))


def life_window(views, life):
    """Return the window that a life is; BadLife for one that does not keep the standing of window_land(views)."""
    life = need_kept(window_land(views), life)
    return tuple([shape for shape, _ in life]), tuple([stands for _, stands in life])


def list_lots(left, views):
    """Return the list of all tuples of so many unlike stands of those that are left, the least one among them."""
    rows = [()]
    for _ in range(views):
        rows = [row + (stand,) for row in rows for stand in left if stand not in row]
    return [row for row in rows if left[0] in row]


def list_parted(stands, views):
    """Return the list of all ways to part stands into lots that have a stand for each view."""
    ways = [[]]
    for _ in range(stands // views):
        grown = []
        for lots in ways:
            left = [stand for stand in range(stands) if not any([stand in lot for lot in lots])]
            grown.extend([lots + [lot] for lot in list_lots(left, views)])
        ways = grown
    return ways


def window_of_lots(lots):
    """Return the window in which one puts within the lots, and each stand sees its view."""
    stands = {}
    for lot in lots:
        for view, stand in enumerate(lot):
            stands[stand] = (view, lot)
    told = [stands[stand] for stand in range(len(stands))]
    return tuple([view for view, _ in told]), tuple([lot for _, lot in told])


def all_windows(stands, views):
    """Return the ascending tuple of all windows; TooGreat(400) for more than 400."""
    stands = need_stands(stands)
    views = need_views(views)
    if stands % views > 0:
        return ()
    need_listable(factorial(stands) // factorial(stands // views))
    return tuple(sorted([window_of_lots(lots) for lots in list_parted(stands, views)]))


def window_behind(stands, between, views, first, second):
    """Return the window that sees through both, and puts a view into the second one and what comes of it back."""
    stands = need_stands(stands)
    between = need_views(between)
    views = need_views(views)
    seen, put = checked_window(stands, between, first)
    seen_behind, put_behind = checked_window(between, views, second)
    found = [tuple([row[onward] for onward in put_behind[inner]]) for inner, row in zip(seen, put)]
    return tuple([seen_behind[inner] for inner in seen]), tuple(found)
