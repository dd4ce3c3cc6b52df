"""What the tests share: wrong values of many kinds, small holders, and ways to go through all rows."""

from functools import lru_cache
from itertools import product

MOST = 10 ** 60


class Number(int):
    """An integer of the tests' own kind, whose sums are such, too."""

    def __add__(self, other):
        return Number(int(self) + int(other))

    def __mul__(self, other):
        return Number(int(self) * int(other))

    __radd__ = __add__
    __rmul__ = __mul__


class Plain:
    """An object of no kind that the program knows."""


class Sly:
    """An object that looks like everything else until it is asked."""

    def __eq__(self, other):
        return True

    def __hash__(self):
        return 0

    def __index__(self):
        return 0

    def __int__(self):
        return 0

    def __len__(self):
        return 0

    def __iter__(self):
        return iter(())


class Sharp:
    """An object that can neither be compared, nor measured, nor told."""

    def _refuse(self, *rest):
        raise RuntimeError("an object was asked what it is")

    __eq__ = __lt__ = __gt__ = __le__ = __ge__ = __len__ = __iter__ = __bool__ = _refuse
    __repr__ = __str__ = __hash__ = __index__ = __int__ = __getitem__ = __contains__ = _refuse


# None of these is an integer, and none is a tuple.
STRANGE = [
    None, True, False, 0.0, 1.0, 1.5, float("nan"), float("inf"), 1j, "", "0", "ab", b"", b"\x00", bytearray(b"a"),
    [], [0], [0, 1], [[0]], {}, {0: 0}, set(), {0}, frozenset({0}), range(0), range(2), iter(()),
    len, int, tuple, Plain, Plain(), Sly(), Sharp(), NotImplemented, Ellipsis,
]

# Tuples that are, in any holder of the tests, no holder, no filling and no program.
STRANGE_TUPLES = [
    (None,), (True,), (False,), (-1,), (13.0,), ("1",), (b"1",), ([],), ({},), (Plain(),), (Sly(),), (Sharp(),),
    (None, None), (True, ()), (False, ()), (0, None), (0, []), (0, [0]), (-1, ()), (99, ()), ((), ()), ((), 0),
    (0, (), ()), (0.0, ()), ("0", ()), (Sly(), ()), (0, Sly()), (Sharp(), Sharp()), (0, (Sharp(),)),
]

STRANGE_INTEGERS = [-1, -10 ** 70, MOST + 1, 10 ** 70, 10 ** 6000]

SMALL_HOLDERS = [(), (0,), (1,), (2,), (3,), (0, 0), (0, 1), (1, 0), (1, 1), (2, 1), (0, 2), (2, 2), (1, 0, 2), (1, 1, 1)]
TINY_HOLDERS = [(), (0,), (1,), (2,), (0, 1), (1, 1), (2, 1), (0, 0), (1, 0, 1)]


def rows(many, size):
    """Return all rows of so many things from 0 to many - 1, ascending."""
    return list(product(range(many), repeat=size))


def fillings(holder, many):
    """Return all fillings, found apart from the program."""
    return [(shape, row) for shape, size in enumerate(holder) for row in rows(many, size)]


def programs(holder, goal):
    """Return all programs, found apart from the program."""
    ways = [[(to, places) for to, width in enumerate(goal) for places in rows(size, width)] for size in holder]
    return list(product(*ways))


def lead(program, filling):
    """Return where a program leads a filling, found apart from the program."""
    to, places = program[filling[0]]
    return to, tuple(filling[1][place] for place in places)


def plain_throughout(value):
    """Tell whether a value is made of plain tuples and plain integers alone."""
    if type(value) is tuple:
        return all(plain_throughout(part) for part in value)
    return type(value) is int


def is_grown(row):
    """Tell whether each number is at most the least one not met ahead of it."""
    return all(number in row[:at] or number == len(set(row[:at])) for at, number in enumerate(row))


def is_dense(row):
    """Tell whether all integers from 0 to the greatest number are in the row."""
    return set(row) == set(range(len(set(row))))


@lru_cache(maxsize=None)
def partings(size):
    """Return all partings of so many places, found apart from the program."""
    return [row for row in rows(max(size, 1), size) if is_grown(row)]


@lru_cache(maxsize=None)
def rankings(size):
    """Return all rankings of so many places, found apart from the program."""
    return [row for row in rows(max(size, 1), size) if is_dense(row)]


def sets_of(size):
    """Return all sets of at least one of so many places, ascending."""
    return sorted(tuple(at for at in range(size) if row[at]) for row in rows(2, size) if any(row))


@lru_cache(maxsize=None)
def lots(size):
    """Return all lots of so many places, found apart from the program."""
    parts = sets_of(size)
    found = []
    for taken in product((False, True), repeat=len(parts)):
        lot = tuple(one for one, inside in zip(parts, taken) if inside)
        if lot and not any(set(one) < set(other) for one in lot for other in lot):
            found.append(lot)
    return sorted(found)


def tables(views, holder, goal):
    """Return all tables by partings or by rankings, found apart from the program."""
    ways = []
    for size in holder:
        pairs = [[(to, way) for to, width in enumerate(goal) for way in rows(len(set(view)), width)]
                 for view in views(size)]
        ways.append(list(product(*pairs)))
    return list(product(*ways))


def risers(holder, goal):
    """Return all risers, found apart from the program."""
    ways = [[(to, way) for to, width in enumerate(goal) for way in product(lots(size), repeat=width)] for size in holder]
    return list(product(*ways))


def lead_lot(lot, row):
    """Return the greatest, over the sets of a lot, of the least thing in the set."""
    return max(min(row[place] for place in places) for places in lot)


def lead_riser(riser, filling):
    """Return where a riser leads a filling, found apart from the program."""
    to, told = riser[filling[0]]
    return to, tuple(lead_lot(lot, filling[1]) for lot in told)


def lead_table(views, see, table, filling):
    """Return where a table by partings or by rankings leads a filling, found apart from the program."""
    shape, row = filling
    to, told = table[shape][views(len(row)).index(see(row))]
    things = dict(zip(see(row), row))
    return to, tuple(things[number] for number in told)


def see_alike(row):
    """Return the parting of a row, found apart from the program."""
    met = sorted(set(row), key=row.index)
    return tuple(met.index(thing) for thing in row)


def see_greater(row):
    """Return the ranking of a row, found apart from the program."""
    return tuple(sorted(set(row)).index(thing) for thing in row)


def injections(few, many):
    """Return all renamings of so few things among so many that keep unlike things unlike."""
    return [row for row in rows(many, few) if len(set(row)) == few]


def climbs(few, many):
    """Return all renamings of so few things among so many that keep greater things greater."""
    return [row for row in rows(many, few) if list(row) == sorted(set(row))]


def levels(few, many):
    """Return all renamings of so few things among so many that never turn an order about."""
    return [row for row in rows(many, few) if list(row) == sorted(row)]


def families(holder, goal, most, renamings):
    """Return all that does the same ahead of and behind the renamings of up to so many things, as dicts.

    Such a thing has an answer for each filling by so many things, for each number of
    things up to `most`; the answers are chosen one by one and held against those ahead.
    """
    asked = [(many, filling) for many in range(most + 1) for filling in fillings(holder, many)]
    found = [{}]
    for many, (shape, row) in asked:
        # Where a renaming leads an earlier question to this one, or this one to an earlier one.
        here, there = [], []
        for few, (to, ahead) in asked[:asked.index((many, (shape, row)))]:
            if to == shape:
                here += [((few, (to, ahead)), names) for names in renamings(few, many)
                         if tuple(names[thing] for thing in ahead) == row]
                there += [((few, (to, ahead)), names) for names in renamings(many, few)
                          if tuple(names[thing] for thing in row) == ahead]
        itself = [names for names in renamings(many, many) if tuple(names[thing] for thing in row) == row]
        grown = []
        for family in found:
            for answer in fillings(goal, many):
                fits = all(named(family[one], names) == answer for one, names in here)
                fits = fits and all(named(answer, names) == family[one] for one, names in there)
                if fits and all(named(answer, names) == answer for names in itself):
                    grown.append({**family, (many, (shape, row)): answer})
        found = grown
    return found


def named(filling, names):
    """Return the filling with names[T] for each thing T."""
    return filling[0], tuple(names[thing] for thing in filling[1])
