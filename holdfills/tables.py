"""What comparers and rankers share: tables that lead each filling by how its things are seen.

A filling (SHAPE, VIEW), whose things are a view (see `partings`), is led to the very
pair that a table has for that shape and that view. So a table is kept as where it
leads these fillings, as a program is kept as where it leads own fillings.
"""

from holdfills.basics import is_tuple_of
from holdfills.errors import BadProgram, NoRow, TooGreat
from holdfills.fillings import count_unlike, is_filling_by, need_filling, plain_filling
from holdfills.holders import how_many_fillings, need_holder
from holdfills.partings import MOST_LOOKED, list_views


def need_lookable(holder):
    """Refuse a checked holder that has a shape with more than 4 places."""
    if any([size > MOST_LOOKED for size in holder]):
        raise TooGreat(MOST_LOOKED)


def all_views(look, holder):
    """Return the list that has, for each shape of a checked holder, the list of all views of its places."""
    found = {}
    for size in holder:
        if size not in found:
            found[size] = list_views(look, size)
    return [found[size] for size in holder]


def need_pairs(goal, shape, views, pairs):
    """Refuse what is no tuple with a filling of the goal, by the numbers of the view, for each view of a shape."""
    if not is_tuple_of(pairs, len(views)):
        raise BadProgram((shape,))
    for number, view in enumerate(views):
        if not is_filling_by(goal, len(set(view)), pairs[number]):
            raise BadProgram((shape, number))


def need_table(look, holder, goal, table):
    """Return a table; BadProgram with (), (S,) or (S, K) for anything else."""
    holder = need_holder(holder)
    goal = need_holder(goal)
    need_lookable(holder)
    if not is_tuple_of(table, len(holder)):
        raise BadProgram(())
    for shape, views in enumerate(all_views(look, holder)):
        need_pairs(goal, shape, views, table[shape])
    return tuple([tuple([plain_filling(pair) for pair in pairs]) for pairs in table])


def table_led(look, views, table, filling):
    """Return where a checked table leads a checked filling; `views` are those of all shapes of its holder."""
    shape, things = filling
    view = look(things)
    to, numbers = table[shape][views[shape].index(view)]
    return to, tuple([things[view.index(number)] for number in numbers])


def table_done(look, holder, goal, table, filling):
    """Return the filling of the goal to which the table leads one of the holder."""
    table = need_table(look, holder, goal, table)
    filling = need_filling(holder, filling)
    return table_led(look, all_views(look, need_holder(holder)), table, filling)


def table_behind(look, holder, middle, goal, first, second):
    """Return the table that does the first one, to the middle holder, and then the second one."""
    holder = need_holder(holder)
    middle = need_holder(middle)
    goal = need_holder(goal)
    need_lookable(holder + middle)
    first = need_table(look, holder, middle, first)
    second = need_table(look, middle, goal, second)
    views = all_views(look, middle)
    return tuple([tuple([table_led(look, views, second, pair) for pair in pairs]) for pairs in first])


def count_tables(look, holder, goal):
    """Return how many tables there are from the holder to the goal."""
    holder = need_holder(holder)
    goal = need_holder(goal)
    need_lookable(holder)
    ways = [how_many_fillings(goal, many) for many in range(MOST_LOOKED + 1)]
    count = 1
    for views in all_views(look, holder):
        for view in views:
            count = count * ways[len(set(view))]
    return count


def tables_apart(look, holder, goal, one, other):
    """Return a filling, by as few unlike things as there can be, that two tables lead to unlike ones."""
    one = need_table(look, holder, goal, one)
    other = need_table(look, holder, goal, other)
    found = []
    for shape, views in enumerate(all_views(look, need_holder(holder))):
        for number, view in enumerate(views):
            if one[shape][number] != other[shape][number]:
                found.append((shape, view))
    if not found:
        raise NoRow()
    return min(found, key=count_unlike)
