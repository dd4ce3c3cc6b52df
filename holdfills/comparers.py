"""Comparers: what leads fillings to fillings and looks at which things are alike.

For each shape and each parting of its places there is a pair: a shape of the goal,
and for each of its places the class of the parting whose thing it gets.
"""

from holdfills.partings import parted
from holdfills.tables import count_tables, need_table, table_behind, table_done, tables_apart


def need_comparer(holder, goal, comparer):
    """Return a comparer; BadProgram with (), (S,) or (S, K) for anything else."""
    return need_table(parted, holder, goal, comparer)


def comparer_done(holder, goal, comparer, filling):
    """Return the filling of the goal to which the comparer leads one of the holder."""
    return table_done(parted, holder, goal, comparer, filling)


def comparer_behind(holder, middle, goal, first, second):
    """Return the comparer that does the first one, to the middle holder, and then the second one."""
    return table_behind(parted, holder, middle, goal, first, second)


def count_comparers(holder, goal):
    """Return how many comparers there are from the holder to the goal."""
    return count_tables(parted, holder, goal)


def comparers_apart(holder, goal, one, other):
    """Return a filling, by as few unlike things as there can be, that two comparers lead to unlike ones."""
    return tables_apart(parted, holder, goal, one, other)
