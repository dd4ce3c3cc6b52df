"""Rankers: what leads fillings to fillings and looks at which things are greater.

For each shape and each ranking of its places there is a pair: a shape of the goal,
and for each of its places the rank whose thing it gets.
"""

from holdfills.partings import ranked
from holdfills.tables import count_tables, need_table, table_behind, table_done, tables_apart


def need_ranker(holder, goal, ranker):
    """Return a ranker; BadProgram with (), (S,) or (S, K) for anything else."""
    return need_table(ranked, holder, goal, ranker)


def ranker_done(holder, goal, ranker, filling):
    """Return the filling of the goal to which the ranker leads one of the holder."""
    return table_done(ranked, holder, goal, ranker, filling)


def ranker_behind(holder, middle, goal, first, second):
    """Return the ranker that does the first one, to the middle holder, and then the second one."""
    return table_behind(ranked, holder, middle, goal, first, second)


def count_rankers(holder, goal):
    """Return how many rankers there are from the holder to the goal."""
    return count_tables(ranked, holder, goal)


def rankers_apart(holder, goal, one, other):
    """Return a filling, by as few unlike things as there can be, that two rankers lead to unlike ones."""
    return tables_apart(ranked, holder, goal, one, other)
