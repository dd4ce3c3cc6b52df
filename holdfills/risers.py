"""Risers: what leads fillings to fillings and only lets greater be greater.

For each shape there is a pair: a shape of the goal, and for each of its places the
lot that leads the things of the first shape to the thing which it gets.
"""

from holdfills.basics import is_tuple_of
from holdfills.errors import BadProgram, NoRow
from holdfills.fillings import count_unlike, is_shaped, need_filling
from holdfills.holders import need_holder
from holdfills.lots import is_lot, least_sets, lot_led, plain_lot, rows_of_bits
from holdfills.programs import how_many_programs
from holdfills.tables import need_lookable

# How many lots there are of so many places: counts come ahead of listing any.
MANY_LOTS = (0, 1, 4, 18, 166)


def need_lots(goal, shape, size, pair):
    """Refuse what is no pair of a shape of the goal and a lot of `size` places for each of its places."""
    if not is_shaped(goal, pair):
        raise BadProgram((shape,))
    for number, lot in enumerate(pair[1]):
        if not is_lot(size, lot):
            raise BadProgram((shape, number))


def need_riser(holder, goal, riser):
    """Return a riser; BadProgram with (), (S,) or (S, K) for anything else."""
    holder = need_holder(holder)
    goal = need_holder(goal)
    need_lookable(holder)
    if not is_tuple_of(riser, len(holder)):
        raise BadProgram(())
    for shape, size in enumerate(holder):
        need_lots(goal, shape, size, riser[shape])
    return tuple([(int(to), tuple([plain_lot(lot) for lot in lots])) for to, lots in riser])


def riser_led(riser, filling):
    """Return where a checked riser leads a checked filling."""
    shape, things = filling
    to, lots = riser[shape]
    return to, tuple([lot_led(lot, things) for lot in lots])


def riser_done(holder, goal, riser, filling):
    """Return the filling of the goal to which the riser leads one of the holder."""
    riser = need_riser(holder, goal, riser)
    return riser_led(riser, need_filling(holder, filling))


def lots_behind(size, lots, more):
    """Return lots of `size` places that lead a row as `lots` and then, what comes of it, as `more` do."""
    between = [tuple([lot_led(lot, row) for lot in lots]) for row in rows_of_bits(size)]
    # What they do with zeros and ones tells them.
    return tuple([least_sets(size, [lot_led(lot, row) for row in between]) for lot in more])


def riser_behind(holder, middle, goal, first, second):
    """Return the riser that does the first one, to the middle holder, and then the second one."""
    holder = need_holder(holder)
    middle = need_holder(middle)
    goal = need_holder(goal)
    need_lookable(holder + middle)
    first = need_riser(holder, middle, first)
    second = need_riser(middle, goal, second)
    found = []
    for size, (between, lots) in zip(holder, first):
        to, more = second[between]
        found.append((to, lots_behind(size, lots, more)))
    return tuple(found)


def count_risers(holder, goal):
    """Return how many risers there are from the holder to the goal."""
    holder = need_holder(holder)
    goal = need_holder(goal)
    need_lookable(holder)
    # There are as many as there were programs if each shape had its lots as places.
    return how_many_programs([MANY_LOTS[size] for size in holder], goal)


def telling_bits(size, one, other):
    """Return a row of as few unlike things as show that two risers, unlike at a shape, do unlike things there."""
    if one[0] != other[0]:
        return tuple([0 for _ in range(size)])
    unlike = [row for row in rows_of_bits(size) if riser_led([one], (0, row)) != riser_led([other], (0, row))]
    return unlike[0]


def risers_apart(holder, goal, one, other):
    """Return a filling, by as few unlike things as there can be, that two risers lead to unlike ones."""
    one = need_riser(holder, goal, one)
    other = need_riser(holder, goal, other)
    found = []
    for shape, size in enumerate(need_holder(holder)):
        if one[shape] != other[shape]:
            found.append((shape, telling_bits(size, one[shape], other[shape])))
    if not found:
        raise NoRow()
    return min(found, key=count_unlike)
