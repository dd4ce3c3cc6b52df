"""Worlds: lands as rooms and arrows, and all standings of small holders.

A place P of a shape S is an arrow from the room S to the room that is seen from P. To
go by an arrow and then by another one is to go to a place beyond.
"""

from holdfills.basics import all_rows, is_below, is_tuple_of
from holdfills.errors import BadParameter, TooGreat
from holdfills.fillings import list_fillings
from holdfills.holders import MOST_PLACES, MOST_SHAPES, need_holder
from holdfills.standings import need_land

MOST_STOOD = 4


def world_of(land):
    """Return the world in which shapes are rooms, and places are arrows, numbered in the order (shape, place)."""
    holder, standing = need_land(land)
    starts = [sum(holder[:room]) for room in range(len(holder))]
    seen = [(room, row) for room, (_, rows) in enumerate(standing) for row in rows]
    arrows = tuple([(room, there) for room, (there, _) in seen])
    ends = tuple([start + here for start, (here, _) in zip(starts, standing)])
    joins = tuple([tuple([starts[room] + gone for gone in beyond]) for room, (_, beyond) in seen])
    return len(holder), arrows, ends, joins


def is_arrow(rooms, value):
    """Tell whether a value is a pair of rooms, of so many."""
    return is_tuple_of(value, 2) and is_below(value[0], rooms) and is_below(value[1], rooms)


def arrows_from(rooms, arrows):
    """Return the list that has, for each room, the list of the numbers of the arrows from it."""
    found = [[] for _ in range(rooms)]
    for number, (room, _) in enumerate(arrows):
        found[room].append(number)
    return found


def is_one_of(numbers, value):
    """Tell whether a value is one of these integers."""
    return is_below(value, max(numbers, default=-1) + 1) and value in numbers


def is_join(leaving, arrow, value):
    """Tell whether a value is a tuple with an arrow from the same room for each arrow from where this one leads."""
    room, there = arrow
    return is_tuple_of(value, len(leaving[there])) and all([is_one_of(leaving[room], number) for number in value])


def is_world(value):
    """Tell whether a value has the form of a world, whether its land keeps the rules or not."""
    if not is_tuple_of(value, 4):
        return False
    rooms, arrows, ends, joins = value
    if not is_below(rooms, MOST_SHAPES + 1) or not isinstance(arrows, tuple) or len(arrows) > rooms * MOST_PLACES:
        return False
    if not all([is_arrow(rooms, arrow) for arrow in arrows]):
        return False
    leaving = arrows_from(rooms, arrows)
    if any([len(numbers) > MOST_PLACES for numbers in leaving]):
        return False
    if not is_tuple_of(ends, rooms) or not is_tuple_of(joins, len(arrows)):
        return False
    if not all([is_one_of(numbers, end) for numbers, end in zip(leaving, ends)]):
        return False
    return all([is_join(leaving, arrow, join) for arrow, join in zip(arrows, joins)])


def land_of(world):
    """Return the land in which each room has as many places as arrows; BadParameter, then BadStanding if it is none."""
    if not is_world(world):
        raise BadParameter(world)
    rooms, arrows, ends, joins = world
    leaving = arrows_from(rooms, arrows)
    place_of = [leaving[room].index(number) for number, (room, _) in enumerate(arrows)]
    seen = [(there, tuple([place_of[gone] for gone in join])) for (_, there), join in zip(arrows, joins)]
    standing = [(place_of[end], tuple([seen[number] for number in numbers])) for end, numbers in zip(ends, leaving)]
    return need_land((tuple([len(numbers) for numbers in leaving]), tuple(standing)))


def list_seen(holder, heres, shape, place):
    """Return the list of what may be seen from a place, by the rules that ask for what is here."""
    if place == heres[shape]:
        return [(shape, tuple(range(holder[shape])))]
    ways = list_fillings(holder, holder[shape])
    return [(there, beyond) for there, beyond in ways if beyond[heres[there]] == place]


def seen_behind(beyond, row):
    """Return what is seen behind a first look that tells places beyond, if `row` is seen from there."""
    return row[0], tuple([beyond[place] for place in row[1]])


def is_fitting(seen):
    """Tell whether from places beyond is seen what is seen from there and then, as far as this is told."""
    for (shape, _), (there, beyond) in seen.items():
        for onward, gone in enumerate(beyond):
            if (there, onward) in seen and (shape, gone) in seen:
                if seen[(shape, gone)] != seen_behind(beyond, seen[(there, onward)]):
                    return False
    return True


def list_ways(seen, ways, shape, place):
    """Return the ways that what is told of some places leaves to another one: at most one if it is beyond them."""
    for (room, _), (there, beyond) in seen.items():
        if room == shape and place in beyond and (there, beyond.index(place)) in seen:
            told = seen_behind(beyond, seen[(there, beyond.index(place))])
            return [way for way in ways if way == told]
    return ways


def seen_standing(holder, heres, seen):
    """Return the standing with these places here, if all that is seen is told."""
    shapes = list(enumerate(holder))
    return tuple([(heres[shape], tuple([seen[(shape, place)] for place in range(size)])) for shape, size in shapes])


def list_standings(holder, heres):
    """Return the list of all standings of a checked holder with these places here."""
    found = [{}]
    for shape, size in enumerate(holder):
        for place in range(size):
            ways = list_seen(holder, heres, shape, place)
            grown = [{**seen, (shape, place): way} for seen in found for way in list_ways(seen, ways, shape, place)]
            # What does not fit is left at once: there are too many ways to tell of all places first.
            found = [seen for seen in grown if is_fitting(seen)]
    return [seen_standing(holder, heres, seen) for seen in found]


def all_standings(holder):
    """Return the ascending tuple of all standings of a holder; TooGreat(4) for more than 4 places together."""
    holder = need_holder(holder)
    if sum(holder) > MOST_STOOD:
        raise TooGreat(MOST_STOOD)
    found = []
    for heres in all_rows([list(range(size)) for size in holder]):
        found.extend(list_standings(holder, heres))
    return tuple(sorted(found))
