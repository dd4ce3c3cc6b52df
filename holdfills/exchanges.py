"""Exchanges of two lands: what turns fillings of the one by fillings of the other about.

A filling by fillings is a pair (SHAPE, FILLINGS). What an exchange does with one is asked
by the shape and the shapes at its places, a pair (SHAPE, SHAPES): `turns` is a dict from
these pairs to where their own fillings are led. As an exchange does not look at things,
these may be fillings themselves.
"""

from holdfills.basics import first_broken, need_listable
from holdfills.errors import BadExchange
from holdfills.inside import all_own, filled_into, list_parts, put_into, taken_apart, taken_out
from holdfills.programs import how_many_programs, is_program, list_programs, plain_program
from holdfills.standings import need_land


def need_two(one, other):
    """Return the holders and the standings of two lands: HOLDER, STANDING, HOLDER, STANDING."""
    return need_land(one) + need_land(other)


def turns_of(first, second, exchange):
    """Return the dict from the shapes of the second holder put into the first one to where an exchange leads these."""
    return dict(zip(list_parts(first, second), [taken_out(second, first, pair) for pair in exchange]))


def turned_by(turns, filling):
    """Return what an exchange makes of a filling by fillings."""
    name, things = taken_apart(filling)
    to, parts = turns[name]
    return to, tuple([(part, tuple([things[place] for place in places])) for part, places in parts])


def turned_in_each(turns, filling):
    """Return what an exchange makes within each thing of a filling by fillings by fillings."""
    return filling[0], tuple([turned_by(turns, thing) for thing in filling[1]])


def here_of(standing, filling):
    """Return the thing here of a filling."""
    return filling[1][standing[filling[0]][0]]


def here_in_each(standing, filling):
    """Return the filling of the things here of each thing of a filling by fillings."""
    return filling[0], tuple([here_of(standing, thing) for thing in filling[1]])


def all_of(standing, filling):
    """Return the filling of the fillings as they are seen from each place of a filling."""
    shape, things = filling
    return shape, tuple([(there, tuple([things[place] for place in beyond])) for there, beyond in standing[shape][1]])


def all_in_each(standing, filling):
    """Return the filling of all that is seen in each thing of a filling by fillings."""
    return filling[0], tuple([all_of(standing, thing) for thing in filling[1]])


def unkept_first_here(ahead, behind, turns, owns):
    """Return where the rule 0 is broken: here of `one` within is what was here."""
    return [(0, shape) for shape, own in enumerate(owns)
            if here_in_each(ahead, turned_by(turns, own)) != here_of(ahead, own)]


def unkept_second_here(ahead, behind, turns, owns):
    """Return where the rule 1 is broken: what is here of `other` was here within."""
    return [(1, shape) for shape, own in enumerate(owns)
            if here_of(behind, turned_by(turns, own)) != here_in_each(behind, own)]


def unkept_first_all(ahead, behind, turns, owns):
    """Return where the rule 2 is broken: all of `one` within is all of it, exchanged within and then outside."""
    found = []
    for shape, own in enumerate(owns):
        seen = turned_in_each(turns, all_of(ahead, own))
        if all_in_each(ahead, turned_by(turns, own)) != turned_by(turns, seen):
            found.append((2, shape))
    return found


def unkept_second_all(ahead, behind, turns, owns):
    """Return where the rule 3 is broken: all of `other` is all of it within, exchanged outside and then within."""
    found = []
    for shape, own in enumerate(owns):
        seen = turned_by(turns, all_in_each(behind, own))
        if all_of(behind, turned_by(turns, own)) != turned_in_each(turns, seen):
            found.append((3, shape))
    return found


RULES = (unkept_first_here, unkept_second_here, unkept_first_all, unkept_second_all)


def broken_exchange(first, ahead, second, behind, exchange):
    """Return the first rule that a program breaks, with the least shape; None if it is an exchange."""
    return first_broken(RULES, ahead, behind, turns_of(first, second, exchange), all_own(first, second))


def need_exchange(one, other, exchange):
    """Return an exchange of two lands; BadExchange with () or the first broken rule for anything else."""
    first, ahead, second, behind = need_two(one, other)
    if not is_program(put_into(first, second), put_into(second, first), exchange):
        raise BadExchange(())
    exchange = plain_program(exchange)
    broken = broken_exchange(first, ahead, second, behind, exchange)
    if broken is not None:
        raise BadExchange(broken)
    return exchange


def all_exchanges(one, other):
    """Return the ascending tuple of all exchanges of two lands; TooGreat(400) if more programs are to be tried."""
    first, ahead, second, behind = need_two(one, other)
    whole, goal = put_into(first, second), put_into(second, first)
    need_listable(how_many_programs(whole, goal))
    return tuple([program for program in list_programs(whole, goal)
                  if broken_exchange(first, ahead, second, behind, program) is None])


def seen_together(first, ahead, second, behind, turns, own):
    """Return the tuple of what is seen from each place (P, Q) of an own filling of the land put together."""
    found = []
    for seen in all_of(ahead, own)[1]:
        _, fillings = turned_by(turns, all_in_each(behind, seen))
        found.extend([filled_into(first, second, shape, things) for shape, things in fillings])
    return tuple(found)


def land_together(one, other, exchange):
    """Return the land of `other` put into `one` in which one stands in both, one in the other, by an exchange."""
    exchange = need_exchange(one, other, exchange)
    first, ahead, second, behind = need_two(one, other)
    turns = turns_of(first, second, exchange)
    standing = []
    for own in all_own(first, second):
        here = here_of(behind, here_of(ahead, own))
        standing.append((here, seen_together(first, ahead, second, behind, turns, own)))
    return put_into(first, second), tuple(standing)


def first_look(one, other):
    """Return the program to the holder of `one` that tells here of `other` in each thing."""
    first, _, second, behind = need_two(one, other)
    return tuple([here_in_each(behind, own) for own in all_own(first, second)])


def second_look(one, other):
    """Return the program to the holder of `other` that tells the thing here of `one`."""
    first, ahead, second, _ = need_two(one, other)
    return tuple([here_of(ahead, own) for own in all_own(first, second)])
