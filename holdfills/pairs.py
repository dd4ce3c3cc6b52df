"""Matched pairs of lands of one room, and lands of one room that are split into two.

A land of one room is kept as a pair (HERE, THEN): THEN[P][Q] is the place "P, then Q". Of a
matched pair, MATCHED[Q][P] is the pair (P1, Q1) to which whoever goes Q and then P goes, too.
"""

from holdfills.basics import all_rows, cut_row, first_broken, is_below, is_tuple_of, need_listable, plain_row, power
from holdfills.deeds import need_few_places
from holdfills.errors import BadExchange, BadParameter
from holdfills.exchanges import need_exchange
from holdfills.standings import need_land


def need_room(land):
    """Return the place here and the places beyond of a land of one room; BadParameter(land) for another land."""
    holder, standing = need_land(land)
    if len(holder) != 1:
        raise BadParameter(land)
    here, rows = standing[0]
    return here, tuple([beyond for _, beyond in rows])


def unkept_stay(one, other, matched):
    """Return where the rule 0 is broken: Q and then here is here and then Q."""
    return [(0, place) for place, pairs in enumerate(matched) if pairs[one[0]] != (one[0], place)]


def unkept_still(one, other, matched):
    """Return where the rule 1 is broken: here and then P is P and then here."""
    return [(1, place) for place, pair in enumerate(matched[other[0]]) if pair != (place, other[0])]


def unkept_first(one, other, matched):
    """Return where the rule 2 is broken: behind Q, "P, then R" is P and then R."""
    found = []
    for start, pairs in enumerate(matched):
        for place, (first, between) in enumerate(pairs):
            for onward, (second, last) in enumerate(matched[between]):
                if pairs[one[1][place][onward]] != (one[1][first][second], last):
                    found.append((2, start, place, onward))
    return found


def unkept_second(one, other, matched):
    """Return where the rule 3 is broken: ahead of P, "Q, then R" is Q and then R."""
    found = []
    for start, pairs in enumerate(matched):
        for onward, later in enumerate(matched):
            for place, (between, behind) in enumerate(later):
                first, ahead = pairs[between]
                if matched[other[1][start][onward]][place] != (first, other[1][ahead][behind]):
                    found.append((3, start, onward, place))
    return found


RULES = (unkept_stay, unkept_still, unkept_first, unkept_second)


def is_pair(many, more, value):
    """Tell whether a value is a pair of a place of so many and one of so many more."""
    return is_tuple_of(value, 2) and is_below(value[0], many) and is_below(value[1], more)


def is_formed(one, other, value):
    """Tell whether a value has the form of a matched pair of two lands of one room."""
    many, more = len(one[1]), len(other[1])
    if not is_tuple_of(value, more) or not all([is_tuple_of(pairs, many) for pairs in value]):
        return False
    return all([is_pair(many, more, pair) for pairs in value for pair in pairs])


def checked_matched(one, other, matched):
    """Return a matched pair of two lands of one room that are checked."""
    if not is_formed(one, other, matched):
        raise BadExchange(())
    matched = tuple([tuple([plain_row(pair) for pair in pairs]) for pairs in matched])
    broken = first_broken(RULES, one, other, matched)
    if broken is not None:
        raise BadExchange(broken)
    return matched


def need_matched(one, other, matched):
    """Return a matched pair; BadExchange with () or the first broken rule for anything else."""
    one = need_room(one)
    other = need_room(other)
    return checked_matched(one, other, matched)


def list_formed(one, other):
    """Return the ascending list of all that may be a matched pair, by the rules 0 and 1."""
    (here, then), (stay, more) = one, other
    pairs = all_rows([list(range(len(then))), list(range(len(more)))])
    lots = []
    for start in range(len(more)):
        ways = [pairs for _ in then]
        ways[here] = [(here, start)]
        if start == stay:
            ways = [[(place, stay)] for place in range(len(then))]
        lots.append(all_rows(ways))
    return all_rows(lots)


def all_matched(one, other):
    """Return the ascending tuple of all matched pairs; TooGreat(12) and TooGreat(400) if too many are to be tried."""
    one = need_room(one)
    other = need_room(other)
    many, more = len(one[1]), len(other[1])
    need_few_places([many * more])
    need_listable(power(many * more, (many - 1) * (more - 1)))
    return tuple([matched for matched in list_formed(one, other) if first_broken(RULES, one, other, matched) is None])


def exchange_of(one, other, matched):
    """Return the exchange of two lands of one room that a matched pair is."""
    one = need_room(one)
    other = need_room(other)
    more = len(other[1])
    need_few_places([len(one[1]) * more])
    matched = checked_matched(one, other, matched)
    return ((0, tuple([place * more + onward for pairs in matched for place, onward in pairs])),)


def matched_of(one, other, exchange):
    """Return the matched pair that an exchange of two lands of one room is."""
    many = len(need_room(one)[1])
    more = len(need_room(other)[1])
    # What has more than 12 places is refused with the exchange, ahead of its own errors.
    _, places = need_exchange(one, other, exchange)[0]
    pairs = [divmod(place, more) for place in places]
    return tuple(cut_row(pairs, [many for _ in range(more)]))


def is_led_in(land, one, value):
    """Tell whether a value leads the places of a land of one room to those of another one, and what is then to then."""
    here, then = land
    if not is_tuple_of(value, len(one[1])) or not all([is_below(place, len(then)) for place in value]):
        return False
    if value[one[0]] != here:
        return False
    return all([value[last] == then[value[place]][value[onward]]
                for place, row in enumerate(one[1]) for onward, last in enumerate(row)])


def is_split_of(land, one, other, value):
    """Tell whether a value is a split of a land of one room into two, all of them checked."""
    if not is_tuple_of(value, 2):
        return False
    first, second = value
    if not is_led_in(land, one, first) or not is_led_in(land, other, second):
        return False
    return sorted([land[1][ahead][behind] for ahead in first for behind in second]) == list(range(len(land[1])))


def is_split(land, one, other, value):
    """Tell whether a value is a split of the land: a pair of tuples of its places for those of `one` and of `other`."""
    land = need_room(land)
    one = need_room(one)
    other = need_room(other)
    return is_split_of(land, one, other, value)


def matched_by(land, one, other, split):
    """Return the matched pair of a split of the land; BadParameter(split) for a value that is none."""
    land = need_room(land)
    one = need_room(one)
    other = need_room(other)
    if not is_split_of(land, one, other, split):
        raise BadParameter(split)
    then = land[1]
    first, second = split
    pairs = {}
    for place, ahead in enumerate(first):
        for onward, behind in enumerate(second):
            pairs[then[ahead][behind]] = (place, onward)
    return tuple([tuple([pairs[then[early][late]] for late in first]) for early in second])
