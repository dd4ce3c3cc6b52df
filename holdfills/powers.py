"""Holders of programs: of those from products, and of those from holders beside one another.

A shape of `program_holder(one, other)` is kept as a program to `other` from shapes that
have one place more than those of `one`, ahead of the others: the place 0, got by what
is open. This only makes each mark greater by one, so that the shapes ascend as told.
"""

from holdfills.basics import cut_row
from holdfills.deeds import beside, multiplied, need_few_places, need_few_shapes
from holdfills.holders import need_holder
from holdfills.programs import how_many_programs, list_programs, need_program, still


def list_marked(one, other):
    """Return the ascending list of the shapes of the holder of programs of two checked holders."""
    return list_programs([size + 1 for size in one], other)


def open_places(marked):
    """Return the list of the places of a shape: pairs (B, R) of a shape of `one` and a place with the open mark."""
    return [(room, place) for room, (_, marks) in enumerate(marked) for place, mark in enumerate(marks) if mark == 0]


def program_holder(one, other):
    """Return the holder whose fillings by N things are the programs from `one` to `other` that may use these, too."""
    one = need_holder(one)
    other = need_holder(other)
    need_few_shapes(how_many_programs([size + 1 for size in one], other))
    return need_few_places([len(open_places(marked)) for marked in list_marked(one, other)])


def fed(holder, one, other, program):
    """Return the program to the holder of programs that leads a shape to where it is led with each shape of `one`."""
    holder = need_holder(holder)
    one = need_holder(one)
    other = need_holder(other)
    program = need_program(multiplied(holder, one), other, program)
    program_holder(one, other)
    shapes = list_marked(one, other)
    found = []
    for shape, size in enumerate(holder):
        pairs = program[shape * len(one):(shape + 1) * len(one)]
        # The places behind those of the shape itself are those of the shape of `one`.
        marked = tuple([(to, tuple([max(place - size + 1, 0) for place in places])) for to, places in pairs])
        taken = [place for _, places in pairs for place in places if place < size]
        found.append((shapes.index(marked), tuple(taken)))
    return tuple(found)


def unfed_pair(marked, taken, size, room):
    """Return where a shape of so many places is led with the shape `room`; its open places get those taken."""
    to, marks = marked[room]
    free = open_places(marked)
    places = []
    for place, mark in enumerate(marks):
        if mark == 0:
            places.append(taken[free.index((room, place))])
        else:
            places.append(size + mark - 1)
    return to, tuple(places)


def unfed(holder, one, other, program):
    """Return the program from the holder and `one` multiplied that is fed to a program to the holder of programs."""
    holder = need_holder(holder)
    one = need_holder(one)
    other = need_holder(other)
    program = need_program(holder, program_holder(one, other), program)
    multiplied(holder, one)
    shapes = list_marked(one, other)
    found = []
    for size, (number, taken) in zip(holder, program):
        found.extend([unfed_pair(shapes[number], taken, size, room) for room in range(len(one))])
    return tuple(found)


def applied(one, other):
    """Return the program from the holder of programs and `one` multiplied that does each of them."""
    holder = program_holder(one, other)
    return unfed(holder, one, other, still(holder))


def beside_holder(one, other):
    """Return the holder whose shapes are the programs from `one` to `other`, with the places to which these go."""
    one = need_holder(one)
    other = need_holder(other)
    need_few_shapes(how_many_programs(one, other))
    return need_few_places([sum([other[to] for to, _ in shape]) for shape in list_programs(one, other)])


def fed_beside(holder, one, other, program):
    """Return the program to `beside_holder` that leads a shape to what is done with it beside each shape of `one`."""
    holder = need_holder(holder)
    one = need_holder(one)
    other = need_holder(other)
    program = need_program(beside(holder, one), other, program)
    beside_holder(one, other)
    shapes = list_programs(one, other)
    found = []
    for shape in range(len(holder)):
        pairs = program[shape * len(one):(shape + 1) * len(one)]
        inner = tuple([(to, tuple([place % width for place in places])) for width, (to, places) in zip(one, pairs)])
        taken = [place // width for width, (_, places) in zip(one, pairs) for place in places]
        found.append((shapes.index(inner), tuple(taken)))
    return tuple(found)


def unfed_beside(holder, one, other, program):
    """Return the program from the holder beside `one` that is fed to a program to `beside_holder`."""
    holder = need_holder(holder)
    one = need_holder(one)
    other = need_holder(other)
    program = need_program(holder, beside_holder(one, other), program)
    beside(holder, one)
    shapes = list_programs(one, other)
    found = []
    for number, taken in program:
        rows = cut_row(taken, [other[to] for to, _ in shapes[number]])
        for width, (to, places), row in zip(one, shapes[number], rows):
            found.append((to, tuple([place * width + away for place, away in zip(row, places)])))
    return tuple(found)
