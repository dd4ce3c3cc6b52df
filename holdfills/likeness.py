"""Stands that are alike for ever, rows of places that tell stands apart, and maps of lives."""

from holdfills.basics import all_rows, is_below, is_tuple_of, need_listable, power
from holdfills.errors import NoRow
from holdfills.lives import need_life, need_stand


def numbered(keys):
    """Return the tuple of numbers of some keys: alike ones have one number, at first met the least not met ahead."""
    numbers = {}
    return tuple([numbers.setdefault(key, len(numbers)) for key in keys])


def classes_of(life):
    """Return the tuple of class numbers of the stands of a checked life."""
    classes = numbered([shape for shape, _ in life])
    finer = numbered([(shape, tuple([classes[onward] for onward in stands])) for shape, stands in life])
    while finer != classes:
        classes = finer
        finer = numbered([(shape, tuple([classes[onward] for onward in stands])) for shape, stands in life])
    return classes


def alike_stands(holder, life):
    """Return the tuple of class numbers of the stands: alike ones have one number."""
    return classes_of(need_life(holder, life))


def stands_apart(holder, life, one, other):
    """Return the least of the shortest rows of places behind which two stands show unlike shapes; NoRow() if none."""
    life = need_life(holder, life)
    one = need_stand(life, one)
    other = need_stand(life, other)
    met = {(one, other): True}
    waiting = [(one, other, ())]
    number = 0
    # Rows are met in their order, shorter ones first: of two rows to one pair only the first one goes on.
    while number < len(waiting):
        one, other, places = waiting[number]
        number += 1
        if life[one][0] != life[other][0]:
            return places
        for place, pair in enumerate(zip(life[one][1], life[other][1])):
            if pair not in met:
                met[pair] = True
                waiting.append((pair[0], pair[1], places + (place,)))
    raise NoRow()


def least_life(holder, life, stand):
    """Return the life without two alike stands whose stand 0 is alike to the told one, and leads to all others."""
    life = need_life(holder, life)
    order = [need_stand(life, stand)]
    classes = classes_of(life)
    numbers = {classes[order[0]]: 0}
    number = 0
    while number < len(order):
        for there in life[order[number]][1]:
            if classes[there] not in numbers:
                numbers[classes[there]] = len(order)
                order.append(there)
        number += 1
    return tuple([(life[kept][0], tuple([numbers[classes[onward]] for onward in life[kept][1]])) for kept in order])


def is_mapped(one, other, row):
    """Tell whether a row of stands of the other life, for those of the one, is a map; all of them are checked."""
    return all([other[row[number]] == (shape, tuple([row[onward] for onward in stands]))
                for number, (shape, stands) in enumerate(one)])


def is_life_map(holder, one, other, value):
    """Tell whether a value is a map from a life to another one."""
    one = need_life(holder, one)
    other = need_life(holder, other)
    if not is_tuple_of(value, len(one)) or not all([is_below(stand, len(other)) for stand in value]):
        return False
    return is_mapped(one, other, value)


def all_life_maps(holder, one, other):
    """Return the ascending tuple of all maps from a life to another one; TooGreat(400) if more are to be tried."""
    one = need_life(holder, one)
    other = need_life(holder, other)
    need_listable(power(len(other), len(one)))
    rows = all_rows([list(range(len(other))) for _ in one])
    return tuple([row for row in rows if is_mapped(one, other, row)])
