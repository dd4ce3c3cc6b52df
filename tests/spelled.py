"""Holders that are made, spelled out as the document tells them, apart from the program.

Such a holder is a list with a pair (NAME, PLACES) for each shape, in their order: what
the document calls the shape, and the list of what it calls its places.
"""

from itertools import product

from samples import programs, rows


def plain(holder):
    """Return a holder as it is: shapes and places are called by their numbers."""
    return [(shape, list(range(size))) for shape, size in enumerate(holder)]


def sizes(spelled):
    """Return the holder that is spelled out."""
    return tuple(len(places) for _, places in spelled)


def number_of(spelled, name):
    """Return the number of the shape with this name."""
    return [one for one, _ in spelled].index(name)


def program_between(source, target, lead):
    """Return the program between two holders that are spelled out.

    `lead` takes the name of a shape and returns that of the shape to which it is led, and a
    function from the names of places of that to those of the places of the first shape.
    """
    found = []
    for name, places in source:
        to, taken_from = lead(name)
        number = number_of(target, to)
        found.append((number, tuple(places.index(taken_from(place)) for place in target[number][1])))
    return tuple(found)


def added(one, other):
    shapes = [((0, shape), [(0, place) for place in range(size)]) for shape, size in enumerate(one)]
    return shapes + [((1, shape), [(1, place) for place in range(size)]) for shape, size in enumerate(other)]


def pairs_of(one, other):
    return list(product(range(len(one)), range(len(other))))


def multiplied(one, other):
    return [((i, j), [(0, p) for p in range(one[i])] + [(1, q) for q in range(other[j])]) for i, j in pairs_of(one, other)]


def beside(one, other):
    return [((i, j), list(product(range(one[i]), range(other[j])))) for i, j in pairs_of(one, other)]


def put_into(one, other):
    names = [(i, shapes) for i, size in enumerate(one) for shapes in product(range(len(other)), repeat=size)]
    return [((i, shapes), [(p, q) for p in range(one[i]) for q in range(other[shapes[p]])]) for i, shapes in names]


def program_holder(one, other):
    lots = [[(k, marks) for k, width in enumerate(other) for marks in product(range(-1, size), repeat=width)] for size in one]
    return [(name, [(b, r) for b, (_, marks) in enumerate(name) for r, mark in enumerate(marks) if mark == -1])
            for name in product(*lots)]


def beside_holder(one, other):
    return [(name, [(b, r) for b, (k, _) in enumerate(name) for r in range(other[k])]) for name in programs(one, other)]


def fillings(spelled, many):
    """Return the fillings of a holder that is spelled out: pairs of a name and a dict from places to things."""
    return [(name, dict(zip(places, row))) for name, places in spelled for row in rows(many, len(places))]


def as_filling(spelled, name, things):
    """Return the filling by numbers that is spelled out as a name and a dict from places to things."""
    number = number_of(spelled, name)
    return number, tuple(things[place] for place in spelled[number][1])
