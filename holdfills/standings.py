"""Standings: a thing here of each filling, and each filling as it is seen from each of its places.

A standing has, for each shape, a pair (HERE, ROWS), and in ROWS, for each place of the
shape, a filling of the holder by places of this shape: what is seen from there.
"""

from holdfills.basics import first_broken, is_below, is_tuple_of
from holdfills.errors import BadParameter, BadStanding, NoRow
from holdfills.fillings import is_filling_by, plain_filling
from holdfills.holders import need_holder
from holdfills.inside import filled_into, put_into, taken_out
from holdfills.programs import need_program


def is_stand(holder, size, value):
    """Tell whether a value is a pair (HERE, ROWS) for a shape of so many places."""
    if not is_tuple_of(value, 2):
        return False
    here, rows = value
    if not is_below(here, size) or not is_tuple_of(rows, size):
        return False
    return all([is_filling_by(holder, size, row) for row in rows])


def broken_return(standing):
    """Return where the rule 0 is broken: from here the shape itself is seen."""
    return [(0, shape) for shape, (here, rows) in enumerate(standing) if rows[here][0] != shape]


def broken_stay(standing):
    """Return where the rule 1 is broken: as it is seen from here, each place lies where it is."""
    return [(1, shape, place) for shape, (here, rows) in enumerate(standing)
            for place, gone in enumerate(rows[here][1]) if gone != place]


def broken_here(standing):
    """Return where the rule 2 is broken: what is here, as it is seen from a place, is this place."""
    return [(2, shape, place) for shape, (_, rows) in enumerate(standing)
            for place, (there, beyond) in enumerate(rows) if beyond[standing[there][0]] != place]


def broken_there(standing):
    """Return where the rule 3 is broken: from a place beyond, the same shape is seen as from there and then."""
    return [(3, shape, place, onward) for shape, (_, rows) in enumerate(standing)
            for place, (there, beyond) in enumerate(rows)
            for onward, gone in enumerate(beyond) if rows[gone][0] != standing[there][1][onward][0]]


def broken_beyond(standing):
    """Return where the rule 4 is broken: from a place beyond, places lie where they lie from there and then."""
    return [(4, shape, place, onward, further) for shape, (_, rows) in enumerate(standing)
            for place, (there, beyond) in enumerate(rows)
            for onward, gone in enumerate(beyond)
            for further, last in enumerate(standing[there][1][onward][1]) if beyond[last] != rows[gone][1][further]]


RULES = (broken_return, broken_stay, broken_here, broken_there, broken_beyond)


def broken_rule(standing):
    """Return the first rule that what is formed as a standing breaks, with the least numbers; None if it keeps all."""
    return first_broken(RULES, standing)


def need_standing(holder, standing):
    """Return a standing; BadStanding with (), (S,) or the first broken rule for anything else."""
    holder = need_holder(holder)
    if not is_tuple_of(standing, len(holder)):
        raise BadStanding(())
    for shape, size in enumerate(holder):
        if not is_stand(holder, size, standing[shape]):
            raise BadStanding((shape,))
    standing = tuple([(int(here), tuple([plain_filling(row) for row in rows])) for here, rows in standing])
    broken = broken_rule(standing)
    if broken is not None:
        raise BadStanding(broken)
    return standing


def need_land(land):
    """Return a land: a pair of a holder and a standing of it."""
    if not is_tuple_of(land, 2):
        raise BadParameter(land)
    standing = need_standing(land[0], land[1])
    return need_holder(land[0]), standing


def look_here(land):
    """Return the program to (1,) that tells the thing here of each filling."""
    _, standing = need_land(land)
    return tuple([(0, (here,)) for here, _ in standing])


def look_all(land):
    """Return the program that puts, at each place of a filling, the filling as it is seen from there."""
    holder, standing = need_land(land)
    put_into(holder, holder)
    return tuple([filled_into(holder, holder, shape, rows) for shape, (_, rows) in enumerate(standing)])


def standing_by(holder, first, second):
    """Return the standing of which two programs tell the thing here and all that is seen; NoRow() if there is none."""
    holder = need_holder(holder)
    first = need_program(holder, (1,), first)
    second = need_program(holder, put_into(holder, holder), second)
    seen = [taken_out(holder, holder, pair) for pair in second]
    if [shape for shape, _ in seen] != list(range(len(holder))):
        raise NoRow()
    standing = tuple([(pair[1][0], rows) for pair, (_, rows) in zip(first, seen)])
    if broken_rule(standing) is not None:
        raise NoRow()
    return standing
