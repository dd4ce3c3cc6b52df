"""Standings and lands, found and judged apart from the program, and how the tests ask for the errors of a land."""

from functools import lru_cache
from itertools import product

from holdfills.errors import BadHolder, BadParameter, BadStanding
from raising import Case
from samples import STRANGE, STRANGE_INTEGERS, STRANGE_TUPLES, rows

GREAT = (12,) * 60
NO_HOLDER = STRANGE + STRANGE_TUPLES + STRANGE_INTEGERS + [(13,), (-1,), (0,) * 61, [1], (1, None), ((1,),), 0, "12"]
# On (2,): whoever is at the other place has come from here, or goes back and forth.
ONWARD, BACK = ((0, ((0, (0, 1)), (0, (1, 1)))),), ((0, ((0, (0, 1)), (0, (1, 0)))),)
# One room that sees the other one.
TWO_ROOMS = ((0, ((0, (0, 1)), (1, (1,)))), (0, ((1, (0,)),)))
END = ((1,), ((0, ((0, (0,)),)),))


def forms(holder):
    """Return all that has the form of a standing of the holder, whether it keeps the rules or not."""
    ways = []
    for size in holder:
        seen = [(there, beyond) for there, width in enumerate(holder) for beyond in rows(size, width)]
        ways.append(list(product(range(size), product(seen, repeat=size))))
    return product(*ways)


class Told:
    """What a standing tells, by the names of the document."""

    def __init__(self, holder, standing):
        self.holder, self.standing = holder, standing

    def here(self, s):
        return self.standing[s][0]

    def there(self, s, p):
        return self.standing[s][1][p][0]

    def beyond(self, s, p, q):
        return self.standing[s][1][p][1][q]

    def places(self, s):
        return range(self.holder[s])

    def shapes(self):
        return range(len(self.holder))


def first_broken(holder, standing):
    """Return the first rule that is broken, the least rule first, then the least numbers, or None."""
    told = Told(holder, standing)
    here, there, beyond, places = told.here, told.there, told.beyond, told.places
    for s in told.shapes():
        if there(s, here(s)) != s:
            return 0, s
    for s in told.shapes():
        for p in places(s):
            if beyond(s, here(s), p) != p:
                return 1, s, p
    for s in told.shapes():
        for p in places(s):
            if beyond(s, p, here(there(s, p))) != p:
                return 2, s, p
    for s in told.shapes():
        for p in places(s):
            for q in places(there(s, p)):
                if there(s, beyond(s, p, q)) != there(there(s, p), q):
                    return 3, s, p, q
    for s in told.shapes():
        for p in places(s):
            for q in places(there(s, p)):
                for r in places(there(there(s, p), q)):
                    if beyond(s, p, beyond(there(s, p), q, r)) != beyond(s, beyond(s, p, q), r):
                        return 4, s, p, q, r
    return None


@lru_cache(maxsize=None)
def standings(holder):
    """Return all standings of a holder, found apart from the program."""
    return [form for form in forms(holder) if first_broken(holder, form) is None]


def lands(*holders):
    """Return all lands on these holders."""
    return [(holder, standing) for holder in holders for standing in standings(holder)]


def turning(size):
    """Return the standing of a room in which places are added up, and the greatest of which goes back to here."""
    return (0, tuple((0, tuple((one + other) % size for other in range(size))) for one in range(size)))


def turning_land(size):
    """Return the land of one room that turns about."""
    return (size,), (turning(size),)


def apart_land(rooms, size):
    """Return the land of so many rooms that turn about, each by itself."""
    room = turning(size)[1]
    return (size,) * rooms, tuple((0, tuple((number, row) for _, row in room)) for number in range(rooms))


def blocks_land(rooms, size):
    """Return the land of rooms that see, `size` of them, one another all, each from one place."""
    seen = [room // size * size for room in range(rooms)]
    return (size,) * rooms, tuple((room % size, tuple((start + there, tuple(range(size))) for there in range(size)))
                                  for room, start in enumerate(seen))


def seen_from(standing, filling, place):
    """Return the filling as it is seen from one of its places."""
    there, beyond = standing[filling[0]][1][place]
    return there, tuple(filling[1][at] for at in beyond)


class LandCase(Case):
    """A test case that can ask for the errors of a holder and of a land."""

    def asks_for_a_holder(self, call):
        """Check that `call` asks for a holder: it is told what to pass as one parameter."""
        for bad in NO_HOLDER:
            self.refused(BadHolder, {"value": bad}, call, bad)

    def asks_for_a_land(self, call):
        """Check that `call` asks for a land: it is told what to pass as one parameter."""
        for bad in STRANGE + STRANGE_INTEGERS + [(), ((2,),), ((2,), BACK, 0), [(2,), BACK], {(2,): BACK}, {0: (2,), 1: BACK}]:
            self.refused(BadParameter, {"value": bad}, call, bad)
        self.asks_for_a_holder(lambda holder: call((holder, None)))
        for bad in STRANGE + STRANGE_INTEGERS + [(), BACK + BACK, list(BACK)]:
            self.refused(BadStanding, {"place": ()}, call, ((2,), bad))
        for bad in STRANGE + STRANGE_TUPLES + [(2, BACK[0][1]), (0, BACK[0][1][:1])]:
            self.refused(BadStanding, {"place": (0,)}, call, ((2,), (bad,)))
        self.refused(BadStanding, {"place": (1, 0, 0)}, call, ((2,), ((1,) + BACK[0][1:],)))
        self.refused(BadStanding, {"place": (0, 0)}, call, ((1, 1), ((0, ((1, (0,)),)), (0, ((1, (0,)),)))))
        self.refused(BadStanding, {"place": (0,)}, call, ((0,), ((0, ()),)))
        self.refused(BadStanding, {"place": ()}, call, (GREAT, None))
