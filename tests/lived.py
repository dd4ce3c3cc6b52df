"""Lives and windows, found and judged apart from the program, and how the tests ask for the errors of a life."""

from itertools import product

from holdfills.errors import BadLife
from landed import LandCase, Told
from samples import MOST, STRANGE, STRANGE_INTEGERS, STRANGE_TUPLES, rows

# The life of the example of [43], on the holder (2, 0).
GOING = ((0, (1, 2)), (0, (0, 2)), (1, ()))


def stands_of(holder, many):
    """Return all that a stand of a life of so many may be."""
    return [(shape, onward) for shape, size in enumerate(holder) for onward in rows(many, size)]


def lives(holder, many):
    """Return all lives of so many stands on a holder."""
    return list(product(stands_of(holder, many), repeat=many))


def come_to(life, stand, places):
    """Return the stand to which one comes by a row of places, or None where a place is not there."""
    for place in places:
        if place >= len(life[stand][1]):
            return None
        stand = life[stand][1][place]
    return stand


def shown_by(life, stand, places):
    """Return the shape that is shown behind a row of places, or None where a place is not there."""
    there = come_to(life, stand, places)
    return None if there is None else life[there][0]


def all_places(width, longest):
    """Return all rows of places from 0 to width - 1, the shortest ones first, then as Python compares."""
    return [row for length in range(longest + 1) for row in rows(width, length)]


def first_unkept_life(land, life):
    """Return the first rule of [44] that is broken, the least rule first, then ascending, or None."""
    told = Told(*land)
    for s, (shape, onward) in enumerate(life):
        if onward[told.here(shape)] != s:
            return 0, s
    for s, (shape, onward) in enumerate(life):
        for p, there in enumerate(onward):
            if life[there][0] != told.there(shape, p):
                return 1, s, p
    for s, (shape, onward) in enumerate(life):
        for p, there in enumerate(onward):
            for q in told.places(told.there(shape, p)):
                if life[there][1][q] != onward[told.beyond(shape, p, q)]:
                    return 2, s, p, q
    return None


def maps_of(one, other):
    """Return all maps from a life to another one."""
    return [row for row in rows(len(other), len(one)) if all(
        other[row[s]] == (shape, tuple(row[to] for to in onward)) for s, (shape, onward) in enumerate(one))]


class LifeCase(LandCase):
    """A test case that can ask for the errors of a life."""

    def asks_for_a_life(self, call):
        """Check that `call`, told what to pass as a life on (2, 0), asks for one."""
        for bad in STRANGE + STRANGE_INTEGERS + [(), list(GOING), dict(enumerate(GOING)), ((1, ()),) * 41, ((1, ()),) * 400]:
            self.refused(BadLife, {"place": ()}, call, bad)
        wrong = STRANGE + STRANGE_TUPLES + STRANGE_INTEGERS + [(), (0, ()), (0, (0,)), (0, (0, 0, 0)), (1, (0,)), (2, ()), (-1, ()),
                                                               (0, (0, 3)), (0, (0, -1)), (0, [0, 0]), [0, (0, 0)], (0, (0, 0), 0),
                                                               (0, (0, MOST)), (MOST, ()), ((0,), ())]
        for bad in wrong:
            self.refused(BadLife, {"place": (0,)}, call, (bad, None, None))
            self.refused(BadLife, {"place": (1,)}, call, (GOING[0], bad, None))
            self.refused(BadLife, {"place": (2,)}, call, GOING[:2] + (bad,))
        for value in STRANGE + STRANGE_INTEGERS + [3]:
            self.refused(BadLife, {"place": (0,)}, call, ((0, (1, value)),) + GOING[1:])
            self.refused(BadLife, {"place": (1,)}, call, GOING[:1] + ((value, (0, 2)),) + GOING[2:])
        self.refused(BadLife, {"place": (39,)}, call, ((1, ()),) * 39 + ((0, (0, 40)),))
