"""What the tests share: wrong values of many kinds, small holders, and ways to go through all rows."""

from itertools import product

MOST = 10 ** 60


class Number(int):
    """An integer of the tests' own kind, whose sums are such, too."""

    def __add__(self, other):
        return Number(int(self) + int(other))

    def __mul__(self, other):
        return Number(int(self) * int(other))

    __radd__ = __add__
    __rmul__ = __mul__


class Plain:
    """An object of no kind that the program knows."""


class Sly:
    """An object that looks like everything else until it is asked."""

    def __eq__(self, other):
        return True

    def __hash__(self):
        return 0

    def __index__(self):
        return 0

    def __int__(self):
        return 0

    def __len__(self):
        return 0

    def __iter__(self):
        return iter(())


class Sharp:
    """An object that can neither be compared, nor measured, nor told."""

    def _refuse(self, *rest):
        raise RuntimeError("an object was asked what it is")

    __eq__ = __lt__ = __gt__ = __le__ = __ge__ = __len__ = __iter__ = __bool__ = _refuse
    __repr__ = __str__ = __hash__ = __index__ = __int__ = __getitem__ = __contains__ = _refuse


# None of these is an integer, and none is a tuple.
STRANGE = [
    None, True, False, 0.0, 1.0, 1.5, float("nan"), float("inf"), 1j, "", "0", "ab", b"", b"\x00", bytearray(b"a"),
    [], [0], [0, 1], [[0]], {}, {0: 0}, set(), {0}, frozenset({0}), range(0), range(2), iter(()),
    len, int, tuple, Plain, Plain(), Sly(), Sharp(), NotImplemented, Ellipsis,
]

# Tuples that are, in any holder of the tests, no holder, no filling and no program.
STRANGE_TUPLES = [
    (None,), (True,), (False,), (-1,), (13.0,), ("1",), (b"1",), ([],), ({},), (Plain(),), (Sly(),), (Sharp(),),
    (None, None), (True, ()), (False, ()), (0, None), (0, []), (0, [0]), (-1, ()), (99, ()), ((), ()), ((), 0),
    (0, (), ()), (0.0, ()), ("0", ()), (Sly(), ()), (0, Sly()), (Sharp(), Sharp()), (0, (Sharp(),)),
]

STRANGE_INTEGERS = [-1, -10 ** 70, MOST + 1, 10 ** 70, 10 ** 6000]

SMALL_HOLDERS = [(), (0,), (1,), (2,), (3,), (0, 0), (0, 1), (1, 0), (1, 1), (2, 1), (0, 2), (2, 2), (1, 0, 2), (1, 1, 1)]
TINY_HOLDERS = [(), (0,), (1,), (2,), (0, 1), (1, 1), (2, 1), (0, 0), (1, 0, 1)]


def rows(many, size):
    """Return all rows of so many things from 0 to many - 1, ascending."""
    return list(product(range(many), repeat=size))


def fillings(holder, many):
    """Return all fillings, found apart from the program."""
    return [(shape, row) for shape, size in enumerate(holder) for row in rows(many, size)]


def programs(holder, goal):
    """Return all programs, found apart from the program."""
    ways = [[(to, places) for to, width in enumerate(goal) for places in rows(size, width)] for size in holder]
    return list(product(*ways))


def lead(program, filling):
    """Return where a program leads a filling, found apart from the program."""
    to, places = program[filling[0]]
    return to, tuple(filling[1][place] for place in places)


def plain_throughout(value):
    """Tell whether a value is made of plain tuples and plain integers alone."""
    if type(value) is tuple:
        return all(plain_throughout(part) for part in value)
    return type(value) is int
