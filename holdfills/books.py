"""Books: how a holder makes one filling of a filling of fillings.

What a program does with fillings of fillings is asked by the shape and the shapes at its
places, a pair (SHAPE, SHAPES), too: a dict from these pairs to where they are led.
"""

from holdfills.basics import MOST_LISTED, cut_row, first_broken, is_below, is_thing, is_tuple_of, need_listable
from holdfills.deeds import first_of, in_both, multiplied, second_of
from holdfills.errors import BadBook, BadFilling, BadParameter, NoRow, TooGreat
from holdfills.fillings import is_filling, need_filling, plain_filling
from holdfills.holders import MOST_PLACES, how_many_fillings, need_holder
from holdfills.inside import all_own, list_parts, put_into, taken_apart
from holdfills.programs import how_many_programs, is_program, led, list_programs, need_program, plain_program, still

MOST_THRICE = 5000


def need_bookable(holder):
    """Return a holder that can be put into itself, and this into it once more; TooGreat for others."""
    holder = need_holder(holder)
    twice = put_into(holder, holder)
    if how_many_fillings(holder, len(twice)) > MOST_THRICE:
        raise TooGreat(MOST_THRICE)
    return holder


def flats_of(holder, flat):
    """Return the dict from the shapes of a holder put into itself, as pairs, to where these are led."""
    return dict(zip(list_parts(holder, holder), flat))


def flat_by(flats, filling):
    """Return the filling to which a filling of fillings is flattened."""
    name, things = taken_apart(filling)
    to, places = flats[name]
    return to, tuple([things[place] for place in places])


def alone(holder, unit, thing):
    """Return the filling of the unit with one thing at all its places."""
    return unit, (thing,) * holder[unit]


def unkept_whole(holder, unit, flats):
    """Return where the rule 0 is broken: what is put into the unit is flattened to itself."""
    return [(0, own[0]) for own in still(holder) if flat_by(flats, alone(holder, unit, own)) != own]


def unkept_alone(holder, unit, flats):
    """Return where the rule 1 is broken: what has all its things put alone is flattened to itself."""
    found = []
    for shape, things in still(holder):
        each = tuple([alone(holder, unit, thing) for thing in things])
        if flat_by(flats, (shape, each)) != (shape, things):
            found.append((1, shape))
    return found


def unkept_thrice(holder, unit, flats):
    """Return where the rule 2 is broken: whether the outer or the inner two are flattened first is all one."""
    twice = list_parts(holder, holder)
    found = []
    for number, (middle, inner) in enumerate(list_parts(put_into(holder, holder), holder)):
        sizes = [holder[part] for part in inner]
        own = list(zip(inner, cut_row(list(range(sum(sizes))), sizes)))
        name = twice[middle]
        to, places = flats[name]
        outer_first = flat_by(flats, (to, [own[place] for place in places]))
        groups = cut_row(own, [holder[part] for part in name[1]])
        inner_first = flat_by(flats, (name[0], [flat_by(flats, group) for group in zip(name[1], groups)]))
        if outer_first != inner_first:
            found.append((2, number))
    return found


RULES = (unkept_whole, unkept_alone, unkept_thrice)


def broken_book(holder, unit, flat):
    """Return the first rule that a shape and a program break, with the least number; None if they are a book."""
    return first_broken(RULES, holder, unit, flats_of(holder, flat))


def checked_book(holder, book):
    """Return a book of a holder that is checked by itself; BadBook for anything else."""
    if not is_tuple_of(book, 2):
        raise BadBook(())
    unit, flat = book
    if not is_below(unit, len(holder)):
        raise BadBook((0,))
    if not is_program(put_into(holder, holder), holder, flat):
        raise BadBook((1,))
    unit, flat = int(unit), plain_program(flat)
    broken = broken_book(holder, unit, flat)
    if broken is not None:
        raise BadBook(broken)
    return unit, flat


def need_book(holder, book):
    """Return a book of the holder; BadBook with (), (0,), (1,) or the first broken rule for anything else."""
    return checked_book(need_bookable(holder), book)


def unit_filling(holder, book, thing):
    """Return the thing alone."""
    holder = need_bookable(holder)
    unit, _ = checked_book(holder, book)
    if not is_thing(thing):
        raise BadParameter(thing)
    return alone(holder, unit, int(thing))


def flattened(holder, book, filling):
    """Return what a filling of the holder put into itself is flattened to."""
    holder = need_bookable(holder)
    _, flat = checked_book(holder, book)
    return led(flat, need_filling(put_into(holder, holder), filling))


def need_fillings(holder, fillings):
    """Return a tuple of at most 400 fillings of a checked holder; BadParameter or BadFilling for anything else."""
    if not isinstance(fillings, tuple) or len(fillings) > MOST_LISTED:
        raise BadParameter(fillings)
    for filling in fillings:
        if not is_filling(holder, filling):
            raise BadFilling(filling)
    return [plain_filling(filling) for filling in fillings]


def chained(holder, book, filling, fillings):
    """Return what is flattened from the filling with fillings[T] in the place of each thing T."""
    holder = need_bookable(holder)
    _, flat = checked_book(holder, book)
    shape, things = need_filling(holder, filling)
    fillings = need_fillings(holder, fillings)
    if not all([thing < len(fillings) for thing in things]):
        raise NoRow()
    return flat_by(flats_of(holder, flat), (shape, [fillings[thing] for thing in things]))


def all_books(holder):
    """Return the ascending tuple of all books of a holder; TooGreat(400) if more are to be tried."""
    holder = need_bookable(holder)
    twice = put_into(holder, holder)
    need_listable(len(holder) * how_many_programs(twice, holder))
    return tuple([(unit, flat) for unit in range(len(holder)) for flat in list_programs(twice, holder)
                  if broken_book(holder, unit, flat) is None])


def only_book(places):
    """Return the book of one shape of so many places, by the filling at each place the thing at this place."""
    if not is_below(places, MOST_PLACES + 1):
        raise BadParameter(places)
    size = int(places)
    put_into((size,), (size,))
    return 0, ((0, tuple([place * size + place for place in range(size)])),)


def need_single(holder):
    """Return a holder with at most one place in each shape; BadParameter(holder) for another one."""
    single = need_holder(holder)
    if any([size > 1 for size in single]):
        raise BadParameter(holder)
    return need_bookable(single)


def is_table(holder, value):
    """Tell whether a value is a tuple with a tuple with a shape for each shape, for each shape of a checked holder."""
    many = len(holder)
    if not is_tuple_of(value, many) or not all([is_tuple_of(row, many) for row in value]):
        return False
    return all([is_below(shape, many) for row in value for shape in row])


def is_told(holder, table):
    """Tell whether a table tells a program: what has no places stays itself, and leads to what has no places."""
    for shape, size in enumerate(holder):
        if size == 0 and any([to != shape for to in table[shape]]):
            return False
        if any([holder[part] == 0 and holder[to] > 0 for part, to in enumerate(table[shape])]):
            return False
    return True


def told_flat(holder, table):
    """Return the program from the holder put into itself that a table tells."""
    found = []
    for shape, parts in list_parts(holder, holder):
        to = shape
        for part in parts:
            to = int(table[shape][part])
        found.append((to, (0,) * holder[to]))
    return tuple(found)


def book_of_table(holder, table):
    """Return the book of shapes of at most one place that has the table; BadParameter(table) if there is none."""
    holder = need_single(holder)
    if not is_table(holder, table) or not is_told(holder, table):
        raise BadParameter(table)
    flat = told_flat(holder, table)
    for unit in range(len(holder)):
        if broken_book(holder, unit, flat) is None:
            return unit, flat
    raise BadParameter(table)


def table_of_book(holder, book):
    """Return the table of a book of shapes of at most one place: to which shape each one, filled with each, leads."""
    holder = need_single(holder)
    _, flat = checked_book(holder, book)
    flats = flats_of(holder, flat)
    shapes = list(range(len(holder)))
    return tuple([tuple([flats[(shape, (part,) * holder[shape])][0] for part in shapes]) for shape in shapes])


def is_book_map(holder, book, goal, other, program):
    """Tell whether a program leads what is alone to what is alone, and what is flattened to what is flattened."""
    holder = need_bookable(holder)
    unit, flat = checked_book(holder, book)
    goal = need_bookable(goal)
    goal_unit, goal_flat = checked_book(goal, other)
    program = need_program(holder, goal, program)
    if program[unit][0] != goal_unit:
        return False
    flats = flats_of(goal, goal_flat)
    for own, pair in zip(all_own(holder, holder), flat):
        inner = tuple([led(program, filling) for filling in own[1]])
        if led(program, pair) != flat_by(flats, led(program, (own[0], inner))):
            return False
    return True


def product_book(holder, book, goal, other):
    """Return the book of both holders multiplied that flattens each half by its own book."""
    holder = need_bookable(holder)
    unit, flat = checked_book(holder, book)
    goal = need_bookable(goal)
    goal_unit, goal_flat = checked_book(goal, other)
    both = need_bookable(multiplied(holder, goal))
    flats, goal_flats = flats_of(holder, flat), flats_of(goal, goal_flat)
    to_first, to_second = first_of(holder, goal), second_of(holder, goal)
    found = []
    for shape, fillings in all_own(both, both):
        one, two = divmod(shape, len(goal))
        firsts = [led(to_first, filling) for filling in fillings[:holder[one]]]
        seconds = [led(to_second, filling) for filling in fillings[holder[one]:]]
        found.append(in_both(flat_by(flats, (one, firsts)), flat_by(goal_flats, (two, seconds)), len(goal)))
    return unit * len(goal) + goal_unit, tuple(found)
