"""What is needed: tables of one kind as tables of another one, and the plainest kind that will do.

Here a *ranker* is asked for as the tuple that has, for each shape, where the fillings
(SHAPE, RANKING) are led, and a comparer likewise by partings (see `tables`). Each
parting is also a ranking.
"""

from holdfills.comparers import need_comparer
from holdfills.holders import need_holder
from holdfills.lots import least_sets, lot_led, rows_of_bits
from holdfills.partings import parted, ranked
from holdfills.programs import led, need_program
from holdfills.rankers import need_ranker
from holdfills.risers import need_riser
from holdfills.tables import all_views, need_lookable, table_led


def need_looking(holder, goal, program):
    """Return a program from a holder whose shapes have at most 4 places."""
    holder = need_holder(holder)
    goal = need_holder(goal)
    need_lookable(holder)
    return need_program(holder, goal, program)


def program_seen(look, holder, program):
    """Return the table, by the views that `look` gives, that does the same as a checked program."""
    found = []
    for shape, views in enumerate(all_views(look, holder)):
        found.append(tuple([led(program, (shape, view)) for view in views]))
    return tuple(found)


def comparer_seen(holder, comparer):
    """Return the ranker that does the same as a checked comparer."""
    partings = all_views(parted, holder)
    found = []
    for shape, rankings in enumerate(all_views(ranked, holder)):
        found.append(tuple([table_led(parted, partings, comparer, (shape, view)) for view in rankings]))
    return tuple(found)


def riser_seen(holder, riser):
    """Return the ranker that does the same as a checked riser."""
    known = {}
    found = []
    for size, views, (to, lots) in zip(holder, all_views(ranked, holder), riser):
        # There are few lots: a great riser has each of them many times.
        for lot in lots:
            if (size, lot) not in known:
                known[(size, lot)] = [lot_led(lot, view) for view in views]
        columns = [known[(size, lot)] for lot in lots]
        found.append(tuple([(to, tuple([column[number] for column in columns])) for number in range(len(views))]))
    return tuple(found)


def as_comparer(holder, goal, program):
    """Return the comparer that does the same as a program."""
    program = need_looking(holder, goal, program)
    return program_seen(parted, need_holder(holder), program)


def as_riser(holder, goal, program):
    """Return the riser that does the same as a program."""
    program = need_looking(holder, goal, program)
    return tuple([(to, tuple([((place,),) for place in places])) for to, places in program])


def comparer_as_ranker(holder, goal, comparer):
    """Return the ranker that does the same as a comparer."""
    comparer = need_comparer(holder, goal, comparer)
    return comparer_seen(need_holder(holder), comparer)


def riser_as_ranker(holder, goal, riser):
    """Return the ranker that does the same as a riser."""
    riser = need_riser(holder, goal, riser)
    return riser_seen(need_holder(holder), riser)


def program_guessed(holder, ranker):
    """Return the only program that may do the same as a checked ranker."""
    found = []
    for shape, views in enumerate(all_views(ranked, holder)):
        # By unlike things, ascending, each place shows where its thing goes.
        found.append(ranker[shape][views.index(tuple(range(holder[shape])))])
    return tuple(found)


def comparer_guessed(holder, ranker):
    """Return the only comparer that may do the same as a checked ranker."""
    rankings = all_views(ranked, holder)
    found = []
    for shape, partings in enumerate(all_views(parted, holder)):
        found.append(tuple([ranker[shape][rankings[shape].index(view)] for view in partings]))
    return tuple(found)


def lots_guessed(size, answers):
    """Return the only lots that may lead each row of zeros and ones to its answer, a row for each."""
    return tuple([least_sets(size, column) for column in zip(*answers)])


def riser_guessed(holder, ranker):
    """Return the only riser that may do the same as a checked ranker; None if shapes are not led to one each."""
    views = all_views(ranked, holder)
    found = []
    for shape, size in enumerate(holder):
        to = ranker[shape][0][0]
        if any([pair[0] != to for pair in ranker[shape]]):
            return None
        answers = [table_led(ranked, views, ranker, (shape, row))[1] for row in rows_of_bits(size)]
        found.append((to, lots_guessed(size, answers)))
    return tuple(found)


def needs_only(holder, goal, ranker):
    """Return the first of a program, a comparer, a riser and a ranker that does the same, behind its kind's word."""
    ranker = need_ranker(holder, goal, ranker)
    holder = need_holder(holder)
    program = program_guessed(holder, ranker)
    if program_seen(ranked, holder, program) == ranker:
        return "plain", program
    comparer = comparer_guessed(holder, ranker)
    if comparer_seen(holder, comparer) == ranker:
        return "comparer", comparer
    riser = riser_guessed(holder, ranker)
    if riser is not None and riser_seen(holder, riser) == ranker:
        return "riser", riser
    return "ranker", ranker
