"""Lands made from lands, what lands are like, and programs from one land to another one that keep standing.

What is seen from a place is a pair (THERE, BEYOND), a row of the standing. Where a shape
is led by a program to (TO, BACKS), the place Q of TO gets its thing from the place BACKS[Q].
"""

from holdfills.basics import first_broken, need_listable
from holdfills.deeds import added, beside, in_each, need_few_places
from holdfills.errors import NoRow
from holdfills.holders import need_holder
from holdfills.programs import how_many_programs, list_programs, need_program
from holdfills.standings import need_land


def land_added(one, other):
    """Return the land on both holders added in which nothing of one is seen from the other."""
    first, ahead = need_land(one)
    second, behind = need_land(other)
    holder = added(first, second)
    later = [(here, tuple([(there + len(first), beyond) for there, beyond in rows])) for here, rows in behind]
    return holder, ahead + tuple(later)


def stand_beside(stand, more, many, width):
    """Return what is told of a pair of shapes, `many` of the second kind, the second one with `width` places."""
    rows = [in_each(row, away, many, width) for row in stand[1] for away in more[1]]
    return stand[0] * width + more[0], tuple(rows)


def land_beside(one, other):
    """Return the land on both holders beside one another in which one stands in both at once."""
    first, ahead = need_land(one)
    second, behind = need_land(other)
    holder = beside(first, second)
    later = list(zip(behind, second))
    return holder, tuple([stand_beside(stand, more, len(second), width) for stand in ahead for more, width in later])


def places_to(standing):
    """Return the list that has, for each shape, the list of the pairs (S, P) from whose place P it is seen."""
    found = [[] for _ in standing]
    for shape, (_, rows) in enumerate(standing):
        for place, (there, _) in enumerate(rows):
            found[there].append((shape, place))
    return found


def turned_row(standing, coming, shape, arrow):
    """Return what is seen, turned about, from the pair `arrow` as a place of a shape; `coming` is places_to."""
    room, place = arrow
    beyond = [(start, standing[start][1][away][1][place]) for start, away in coming[room]]
    return room, tuple([coming[shape].index(gone) for gone in beyond])


def land_turned(land):
    """Return the land with the same shapes in which all arrows are turned about."""
    _, standing = need_land(land)
    coming = places_to(standing)
    holder = need_few_places([len(pairs) for pairs in coming])
    turned = []
    for shape, pairs in enumerate(coming):
        rows = tuple([turned_row(standing, coming, shape, arrow) for arrow in pairs])
        turned.append((pairs.index((shape, standing[shape][0])), rows))
    return holder, tuple(turned)


def end_land(holder):
    """Return the land with as many shapes as the holder, each with one place."""
    rooms = range(len(need_holder(holder)))
    return tuple([1 for _ in rooms]), tuple([(0, ((room, (0,)),)) for room in rooms])


def has_backs(land):
    """Tell whether from each place one comes back to the place here."""
    _, standing = need_land(land)
    return all([here in beyond for here, rows in standing for _, beyond in rows])


def is_thin(land):
    """Tell whether from no shape one shape is seen from two places."""
    _, standing = need_land(land)
    return all([len(set([there for there, _ in rows])) == len(rows) for _, rows in standing])


def unkept_here(one, other, program):
    """Return where the rule 0 is broken: the thing here stays the thing here."""
    return [(0, shape) for shape, (to, backs) in enumerate(program) if backs[other[to][0]] != one[shape][0]]


def unkept_there(one, other, program):
    """Return where the rule 1 is broken: from a place is seen where the shape seen from its place is led."""
    return [(1, shape, place) for shape, (to, backs) in enumerate(program)
            for place, origin in enumerate(backs)
            if other[to][1][place][0] != program[one[shape][1][origin][0]][0]]


def unkept_beyond(one, other, program):
    """Return where the rule 2 is broken: places beyond get their things from places beyond."""
    found = []
    for shape, (to, backs) in enumerate(program):
        for place, origin in enumerate(backs):
            there, beyond = one[shape][1][origin]
            onward = [beyond[back] for back in program[there][1]]
            gone = [backs[away] for away in other[to][1][place][1]]
            found.extend([(2, shape, place, number) for number in range(len(gone)) if gone[number] != onward[number]])
    return found


KEEPING = (unkept_here, unkept_there, unkept_beyond)


def first_unkept(one, other, program):
    """Return the first rule that a program between two lands breaks; None if it keeps standing."""
    holder, ahead = need_land(one)
    goal, behind = need_land(other)
    return first_broken(KEEPING, ahead, behind, need_program(holder, goal, program))


def is_keeping(one, other, program):
    """Tell whether a program from the holder of a land to that of another one keeps standing."""
    return first_unkept(one, other, program) is None


def broken_keeping(one, other, program):
    """Return the first rule that a program breaks, with the least numbers; NoRow() if it keeps standing."""
    broken = first_unkept(one, other, program)
    if broken is None:
        raise NoRow()
    return broken


def all_keeping(one, other):
    """Return the ascending tuple of all programs that keep standing; TooGreat(400) for more than 400 programs."""
    holder, ahead = need_land(one)
    goal, behind = need_land(other)
    need_listable(how_many_programs(holder, goal))
    return tuple([program for program in list_programs(holder, goal)
                  if first_broken(KEEPING, ahead, behind, program) is None])
