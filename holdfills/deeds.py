"""Deeds on holders: added, multiplied, beside one another, and the programs between what is made.

The shape (I, J) of a made holder has the number I * MANY + J, with MANY the number of
shapes of the second holder; the place (P, Q) of a shape of holders beside one another
has the number P * WIDTH + Q, with WIDTH the number of places of J.

Where a holder is made and not used, it is made for its errors: it may be too great.
"""

from holdfills.basics import is_tuple_of
from holdfills.errors import BadParameter, TooGreat
from holdfills.holders import MOST_PLACES, MOST_SHAPES, need_holder
from holdfills.programs import need_program, still


def need_few_shapes(count):
    """Refuse a made holder that would have more than 60 shapes."""
    if count > MOST_SHAPES:
        raise TooGreat(MOST_SHAPES)


def need_few_places(sizes):
    """Return a made holder; refuse one that would have a shape with more than 12 places."""
    if any([size > MOST_PLACES for size in sizes]):
        raise TooGreat(MOST_PLACES)
    return tuple(sizes)


def added(one, other):
    """Return the holder with the shapes of the one, then those of the other."""
    one = need_holder(one)
    other = need_holder(other)
    need_few_shapes(len(one) + len(other))
    return one + other


def multiplied(one, other):
    """Return the holder with a shape for each pair of shapes, with the places of both."""
    one = need_holder(one)
    other = need_holder(other)
    need_few_shapes(len(one) * len(other))
    return need_few_places([size + more for size in one for more in other])


def beside(one, other):
    """Return the holder with a shape for each pair of shapes, with a place for each pair of places."""
    one = need_holder(one)
    other = need_holder(other)
    need_few_shapes(len(one) * len(other))
    return need_few_places([size * more for size in one for more in other])


def moved(pair, shapes, places):
    """Return the pair of a shape and places, its numbers made greater by so many shapes and places."""
    return pair[0] + shapes, tuple([place + places for place in pair[1]])


def in_both(pair, more, many):
    """Return the pair of shapes, `many` of the second kind, and the row of the places of both."""
    return pair[0] * many + more[0], pair[1] + more[1]


def in_each(pair, more, many, width):
    """Return the pair of shapes, `many` of the second kind, and the pairs of places, `width` of the second kind."""
    return pair[0] * many + more[0], tuple([place * width + away for place in pair[1] for away in more[1]])


def into_first(one, other):
    """Return the program from `one` to both added that keeps shapes and places."""
    added(one, other)
    return still(one)


def into_second(one, other):
    """Return the program from `other` to both added that keeps shapes and places."""
    added(one, other)
    return tuple([moved(pair, len(one), 0) for pair in still(other)])


def either(one, other, goal, first, second):
    """Return the program from both added that does the first one on shapes of `one`, the second one on the others."""
    one = need_holder(one)
    other = need_holder(other)
    goal = need_holder(goal)
    first = need_program(one, goal, first)
    second = need_program(other, goal, second)
    added(one, other)
    return first + second


def first_of(one, other):
    """Return the program from both multiplied to `one` that forgets the other half."""
    multiplied(one, other)
    return tuple([pair for pair in still(one) for _ in need_holder(other)])


def second_of(one, other):
    """Return the program from both multiplied to `other` that forgets the first half."""
    multiplied(one, other)
    return tuple([moved(pair, 0, size) for size in need_holder(one) for pair in still(other)])


def paired(holder, one, other, first, second):
    """Return the program from the holder to both multiplied that does both programs."""
    holder = need_holder(holder)
    one = need_holder(one)
    other = need_holder(other)
    first = need_program(holder, one, first)
    second = need_program(holder, other, second)
    multiplied(one, other)
    return tuple([in_both(pair, more, len(other)) for pair, more in zip(first, second)])


def need_four(holders):
    """Return a tuple of four holders; BadParameter(holders) for anything else."""
    if not is_tuple_of(holders, 4):
        raise BadParameter(holders)
    return tuple([need_holder(holder) for holder in holders])


def need_both(make, holders, first, second):
    """Return four holders, with a program from A to B and one from C to D, of which `make` makes two: A, C and B, D."""
    one, one_goal, other, other_goal = need_four(holders)
    first = need_program(one, one_goal, first)
    second = need_program(other, other_goal, second)
    make(one, other)
    make(one_goal, other_goal)
    return (one, one_goal, other, other_goal), first, second


def both_added(holders, first, second):
    """Return the program that does the first one on shapes of A, the second one on those of C."""
    holders, first, second = need_both(added, holders, first, second)
    return first + tuple([moved(pair, len(holders[1]), 0) for pair in second])


def both_multiplied(holders, first, second):
    """Return the program that does the first one in the first half, the second one in the second half."""
    holders, first, second = need_both(multiplied, holders, first, second)
    many = len(holders[3])
    sized = list(zip(holders[0], first))
    return tuple([in_both(pair, moved(more, 0, size), many) for size, pair in sized for more in second])


def both_beside(holders, first, second):
    """Return the program that does the first one in the first half of each place, the second one in the second half."""
    holders, first, second = need_both(beside, holders, first, second)
    many = len(holders[3])
    sized = list(zip(holders[2], second))
    return tuple([in_each(pair, more, many, width) for pair in first for width, more in sized])
