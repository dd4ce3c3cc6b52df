"""Lives: stands that show a shape, and go on to a stand by each of its places.

A stand (SHAPE, NEXT) of a life of so many stands is a filling of the holder by their numbers.
"""

from holdfills.basics import MOST_LISTED, is_below, need_from_one, need_index
from holdfills.deeds import beside, in_each
from holdfills.errors import BadLife, BadParameter, NoRow, TooGreat
from holdfills.fillings import is_filling_by, plain_filling
from holdfills.holders import MOST_PLACES, need_holder
from holdfills.inside import filled_into, put_into
from holdfills.programs import led, need_program

MOST_STANDS = 40


def need_stands(stands):
    """Return a number of stands, an integer from 1 to 40; BadParameter(stands) for anything else."""
    return need_from_one(MOST_STANDS, stands)


def need_few_stands(count):
    """Refuse a life that would have more than 40 stands."""
    if count > MOST_STANDS:
        raise TooGreat(MOST_STANDS)


def need_life(holder, life):
    """Return a life on the holder; BadLife(()) or BadLife((I,)) for anything else."""
    holder = need_holder(holder)
    if not isinstance(life, tuple) or len(life) == 0 or len(life) > MOST_STANDS:
        raise BadLife(())
    for number, stand in enumerate(life):
        if not is_filling_by(holder, len(life), stand):
            raise BadLife((number,))
    return tuple([plain_filling(stand) for stand in life])


def need_stand(life, stand):
    """Return the number of a stand of a checked life."""
    return need_index(len(life), stand)


def need_places(places):
    """Return a tuple of at most 400 integers from 0 to 11; BadParameter(places) for anything else."""
    if not isinstance(places, tuple) or len(places) > MOST_LISTED:
        raise BadParameter(places)
    if not all([is_below(place, MOST_PLACES) for place in places]):
        raise BadParameter(places)
    return places


def shown(holder, life, stand, places):
    """Return the shape that is shown behind a row of places; NoRow() where a place is not there."""
    life = need_life(holder, life)
    stand = need_stand(life, stand)
    for place in need_places(places):
        onward = life[stand][1]
        if place >= len(onward):
            raise NoRow()
        stand = onward[place]
    return life[stand][0]


def led_life(holder, goal, program, life):
    """Return the life on the goal whose stands show, and go on, as they are led by the program."""
    program = need_program(holder, goal, program)
    life = need_life(holder, life)
    return tuple([led(program, stand) for stand in life])


def lives_beside(holder, goal, one, other):
    """Return the life on holder and goal beside one another in which one goes on in both lives at once."""
    holder = need_holder(holder)
    goal = need_holder(goal)
    one = need_life(holder, one)
    other = need_life(goal, other)
    beside(holder, goal)
    need_few_stands(len(one) * len(other))
    return tuple([in_each(stand, more, len(goal), len(other)) for stand in one for more in other])


def lives_added(holder, one, other):
    """Return the life with the stands of the one, then those of the other."""
    one = need_life(holder, one)
    other = need_life(holder, other)
    need_few_stands(len(one) + len(other))
    return one + tuple([(shape, tuple([len(one) + onward for onward in stands])) for shape, stands in other])


def two_steps(holder, life):
    """Return the life on the holder put into itself that shows two steps at once, and goes on by both."""
    life = need_life(holder, life)
    holder = need_holder(holder)
    put_into(holder, holder)
    return tuple([filled_into(holder, holder, shape, [life[onward] for onward in stands]) for shape, stands in life])
