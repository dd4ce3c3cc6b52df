"""Programs: what leads fillings of a holder to fillings of a goal without looking at things.

A program is kept as where it leads own fillings: for each shape of the holder a
filling of the goal by the places of this shape.
"""

from holdfills.basics import all_rows, is_tuple_of, need_listable
from holdfills.errors import BadFilling, BadParameter, BadProgram, NoRow
from holdfills.fillings import count_unlike, is_filling, is_filling_by, list_fillings
from holdfills.fillings import need_filling, plain_filling
from holdfills.holders import how_many_fillings, need_holder


def need_program(holder, goal, program):
    """Return a program; BadProgram(()) or BadProgram((I,)) for anything else."""
    holder = need_holder(holder)
    goal = need_holder(goal)
    if not is_tuple_of(program, len(holder)):
        raise BadProgram(())
    for shape, pair in enumerate(program):
        if not is_filling_by(goal, holder[shape], pair):
            raise BadProgram((shape,))
    return plain_program(program)


def is_program(holder, goal, value):
    """Tell whether a value is a program from a checked holder to a checked goal."""
    if not is_tuple_of(value, len(holder)):
        return False
    return all([is_filling_by(goal, size, pair) for size, pair in zip(holder, value)])


def plain_program(program):
    """Return the program in plain tuples that is like a checked one."""
    return tuple([plain_filling(pair) for pair in program])


def led(program, filling):
    """Return where a checked program leads a checked filling."""
    shape, things = filling
    to, places = program[shape]
    return to, tuple([things[place] for place in places])


def done(holder, goal, program, filling):
    """Return the filling of the goal to which the program leads one of the holder."""
    program = need_program(holder, goal, program)
    return led(program, need_filling(holder, filling))


def one_behind(holder, middle, goal, first, second):
    """Return the program that does the first one, to the middle holder, and then the second one."""
    first = need_program(holder, middle, first)
    second = need_program(middle, goal, second)
    return tuple([led(second, pair) for pair in first])


def still(holder):
    """Return the program from a holder to itself that changes nothing."""
    holder = need_holder(holder)
    return tuple([(shape, tuple(range(size))) for shape, size in enumerate(holder)])


def how_many_programs(sizes, goal):
    """Return how many programs there are from shapes of such sizes to a checked goal."""
    count = 1
    for size in sizes:
        count = count * how_many_fillings(goal, size)
    return count


def count_programs(holder, goal):
    """Return how many programs there are from the holder to the goal."""
    holder = need_holder(holder)
    return how_many_programs(holder, need_holder(goal))


def list_programs(sizes, goal):
    """Return the ascending list of all programs from shapes of such sizes to a checked goal."""
    if how_many_programs(sizes, goal) == 0:
        # One shape can go nowhere; another one may have more ways to go than can be listed.
        return []
    return all_rows([list_fillings(goal, size) for size in sizes])


def all_programs(holder, goal):
    """Return the ascending tuple of all programs; TooGreat(400) for more than 400."""
    need_listable(count_programs(holder, goal))
    return tuple(list_programs(need_holder(holder), need_holder(goal)))


def program_of(holder, goal, answers):
    """Return the program that leads the own filling of each shape to its answer."""
    holder = need_holder(holder)
    goal = need_holder(goal)
    if not is_tuple_of(answers, len(holder)):
        raise BadParameter(answers)
    for size, answer in zip(holder, answers):
        if not is_filling_by(goal, size, answer):
            raise BadFilling(answer)
    return plain_program(answers)


def telling_things(size, one, other):
    """Return as few unlike things for `size` places as show that two programs do unlike things with them."""
    if one[0] != other[0]:
        return tuple([0 for _ in range(size)])
    unlike = [max(place, away) for place, away in zip(one[1], other[1]) if place != away]
    return tuple([int(place == unlike[0]) for place in range(size)])


def told_apart(holder, goal, one, other):
    """Return a filling, by as few unlike things as there can be, that two programs lead to unlike ones."""
    one = need_program(holder, goal, one)
    other = need_program(holder, goal, other)
    found = []
    for shape, size in enumerate(need_holder(holder)):
        if one[shape] != other[shape]:
            found.append((shape, telling_things(size, one[shape], other[shape])))
    if not found:
        raise NoRow()
    return min(found, key=count_unlike)


def is_apart(holder, goal, one, other, value):
    """Tell whether a value is a filling that two programs lead to unlike ones."""
    one = need_program(holder, goal, one)
    other = need_program(holder, goal, other)
    if not is_filling(need_holder(holder), value):
        return False
    return led(one, value) != led(other, value)


def is_one_to_one(holder, goal, program):
    """Tell whether FOR ALL sets unlike fillings are led to unlike ones."""
    program = need_program(holder, goal, program)
    if len(set([to for to, _ in program])) < len(program):
        return False
    used = [len(set(places)) for _, places in program]
    return used == list(need_holder(holder))


def is_reached(holder, program, shape, size):
    """Tell whether FOR ALL sets each filling of one shape of the goal, of `size` places, is reached."""
    for room, (to, places) in zip(holder, program):
        # By the empty set only shapes without places can be filled.
        filled = size > 0 or room == 0
        if to == shape and filled and len(set(places)) == size:
            return True
    return False


def is_onto(holder, goal, program):
    """Tell whether FOR ALL sets, the empty one too, each filling of the goal is reached."""
    program = need_program(holder, goal, program)
    holder = need_holder(holder)
    sizes = need_holder(goal)
    return all([is_reached(holder, program, shape, size) for shape, size in enumerate(sizes)])


def turned_about(places):
    """Return the row of places that undoes one in which each place is once."""
    return tuple([places.index(place) for place in range(len(places))])


def back(holder, goal, program):
    """Return the program that undoes the program; NoRow() if there is none."""
    program = need_program(holder, goal, program)
    if not is_one_to_one(holder, goal, program) or not is_onto(holder, goal, program):
        raise NoRow()
    found = {}
    for shape, (to, places) in enumerate(program):
        found[to] = (shape, turned_about(places))
    return tuple([found[number] for number in range(len(found))])
