"""Lives that keep a standing, the free life of a shape, and the maps from it."""

from holdfills.basics import all_rows, first_broken, need_index, power
from holdfills.errors import BadLife, NoRow, TooGreat
from holdfills.lives import need_life, need_stand, need_stands
from holdfills.standings import need_land

MOST_TRIED = 5000


def unkept_stay(standing, life):
    """Return where the rule 0 is broken: by the place here one stays."""
    return [(0, stand) for stand, (shape, stands) in enumerate(life) if stands[standing[shape][0]] != stand]


def unkept_shown(standing, life):
    """Return where the rule 1 is broken: by a place one comes to a stand that shows what is seen from there."""
    return [(1, stand, place) for stand, (shape, stands) in enumerate(life)
            for place, onward in enumerate(stands) if life[onward][0] != standing[shape][1][place][0]]


def unkept_beyond(standing, life):
    """Return where the rule 2 is broken: by two places one comes to where one comes by the place beyond."""
    return [(2, stand, place, further) for stand, (shape, stands) in enumerate(life)
            for place, onward in enumerate(stands)
            for further, last in enumerate(life[onward][1]) if last != stands[standing[shape][1][place][1][further]]]


RULES = (unkept_stay, unkept_shown, unkept_beyond)


def broken_by(standing, life):
    """Return the first rule that a checked life breaks, with the least numbers; None if it keeps the standing."""
    return first_broken(RULES, standing, life)


def need_kept(land, life):
    """Return a life that keeps the standing of a land; BadLife for anything else."""
    holder, standing = land
    life = need_life(holder, life)
    broken = broken_by(standing, life)
    if broken is not None:
        raise BadLife(broken)
    return life


def broken_life(land, life):
    """Return the first rule that a life breaks, with the least numbers; NoRow() if it keeps the standing."""
    holder, standing = need_land(land)
    broken = broken_by(standing, need_life(holder, life))
    if broken is None:
        raise NoRow()
    return broken


def is_kept(land, value):
    """Tell whether a value is a life on the holder of the land that keeps its standing."""
    land = need_land(land)
    try:
        need_kept(land, value)
    except BadLife:
        return False
    return True


def list_stands(standing, stands, stand):
    """Return the ascending list of what a stand, of so many, may show and go on to, by the rule 0."""
    found = []
    for shape, (here, rows) in enumerate(standing):
        ways = [list(range(stands)) for _ in rows]
        ways[here] = [stand]
        found.extend([(shape, row) for row in all_rows(ways)])
    return found


def all_kept(land, stands):
    """Return the ascending tuple of all lives of so many stands that keep the standing; TooGreat(5000) for too many."""
    holder, standing = need_land(land)
    stands = need_stands(stands)
    ways = sum([power(stands, size - 1) for size in holder])
    if power(ways, stands) > MOST_TRIED:
        raise TooGreat(MOST_TRIED)
    lives = all_rows([list_stands(standing, stands, stand) for stand in range(stands)])
    return tuple([life for life in lives if broken_by(standing, life) is None])


def free_life(land, shape):
    """Return the life whose stands are the places of a shape, each showing the shape that is seen from there."""
    holder, standing = need_land(land)
    return standing[need_index(len(holder), shape)][1]


def map_by(land, shape, life, stand):
    """Return the map from the free life of a shape that leads the place here to a stand; NoRow() if there is none."""
    land = need_land(land)
    shape = need_index(len(land[0]), shape)
    life = need_kept(land, life)
    stand = need_stand(life, stand)
    if life[stand][0] != shape:
        raise NoRow()
    return life[stand][1]
