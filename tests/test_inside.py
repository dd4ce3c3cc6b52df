"""[7], [21], [23], [24] One holder put into another, and the programs that only move things."""

import unittest
from collections import Counter
from itertools import product

import spelled
from holdfills.counts import same_counts
from holdfills.cuts import holes
from holdfills.deeds import beside, both_beside, both_multiplied, multiplied
from holdfills.errors import BadFilling, BadHolder, BadIndex, BadParameter, BadProgram, NoRow, TooGreat
from holdfills.holders import count_fillings
from holdfills.inside import both_into, crossed, filling_into, fillings_out, parts_into, put_into, regrouped, shape_into, spread
from holdfills.programs import back, is_one_to_one, is_onto, need_program, one_behind, still
from raising import Case
from samples import MOST, Number, SMALL_HOLDERS, STRANGE, STRANGE_INTEGERS, STRANGE_TUPLES
from samples import fillings, lead, plain_throughout, programs

GREAT = (12,) * 60
WRONG = STRANGE + STRANGE_TUPLES + STRANGE_INTEGERS + [(13,), (-1,), (0,) * 61, [1], (1, None), ((1,),), 0, "12"]
NO_PROGRAM = STRANGE + STRANGE_INTEGERS + [[(0, ())], {0: (0, ())}]
FEW = [(), (0,), (1,), (2,), (0, 1), (1, 1), (2, 1)]
# Pairs of holders of which the one can be put into the other.
SMALL_PAIRS = [(one, other) for one in SMALL_HOLDERS for other in SMALL_HOLDERS]


def put(one, other):
    """Return the holder, spelled out apart from the program, or None if it has too many shapes or places."""
    if sum(len(other) ** size for size in one) > 60:
        return None
    whole = spelled.put_into(one, other)
    return whole if max(spelled.sizes(whole), default=0) <= 12 else None


def first_program(holder, goal):
    """Return a program that leads all shapes to the shape 0 of the goal, and there their first thing to each place."""
    return ((0, (0,) * goal[0]),) * len(holder)


def turned_program(holder):
    """Return a program that turns shapes and places about, for a holder whose shapes are alike from both ends."""
    return tuple((len(holder) - 1 - shape, tuple(range(size))[::-1]) for shape, size in enumerate(holder))


class PutInto(Case):

    def test_shapes_and_places_as_told(self):
        for one, other in SMALL_PAIRS:
            found = put_into(one, other)
            self.assertEqual(found, spelled.sizes(put(one, other)))
            self.assertTrue(plain_throughout(found))

    def test_to_the_letter(self):
        self.assertEqual(put_into((2,), (1, 3)), (2, 4, 4, 6))
        self.assertEqual(put_into((1, 0), (2, 0)), (2, 0, 0))
        self.assertEqual(put_into((0, 2), (2,)), (0, 4))

    def test_how_many_fillings(self):
        for one, other in SMALL_PAIRS:
            for many in (0, 1, 2, 3):
                inner = count_fillings(other, many)
                self.assertEqual(count_fillings(put_into(one, other), many), count_fillings(one, inner))

    def test_the_edges(self):
        for holder in ((), (0,), (2, 0), GREAT):
            self.assertEqual(put_into((), holder), ())
            self.assertEqual(put_into((0,), holder), (0,))
            self.assertEqual(put_into((1,), holder), holder)
            self.assertEqual(put_into(holder, (1,)), holder)
            self.assertEqual(put_into(holder, ()), tuple(size for size in holder if size == 0))
            self.assertEqual(put_into(holder, (0,)), (0,) * len(holder))

    def test_60_shapes_and_one_more(self):
        self.assertEqual(put_into((1, 1), (2,) * 30), (2,) * 60)
        self.assertEqual(put_into((2, 2, 0, 0), (1, 2, 1, 0, 0)), spelled.sizes(put((2, 2, 0, 0), (1, 2, 1, 0, 0))))
        for one, other in (((2,), (0,) * 8), ((1, 1, 0), (0,) * 30), ((6,), (0, 0)), (GREAT, (0, 0)), ((12,), GREAT)):
            self.refused(TooGreat, {"most": 60}, put_into, one, other)

    def test_12_places_and_one_more(self):
        self.assertEqual(put_into((12, 4, 6), (1,)), (12, 4, 6))
        self.assertEqual(put_into((3, 4), (3,)), (9, 12))
        self.assertEqual(put_into((6,) * 60, (2,)), GREAT)
        for one, other in (((3,), (5,)), ((12,), (2,)), ((2,), (6, 7)), ((0, 1, 2), (0, 12)), (GREAT, (12,))):
            self.refused(TooGreat, {"most": 12}, put_into, one, other)

    def test_both_at_once_and_far_beyond(self):
        self.refused(TooGreat, {"most": 60}, put_into, (2,), (12,) * 8)
        self.refused(TooGreat, {"most": 60}, put_into, GREAT, GREAT)
        self.quick(self.refused, TooGreat, {"most": 60}, put_into, GREAT, GREAT)
        self.quick(self.refused, TooGreat, {"most": 60}, put_into, (12,), GREAT)

    def test_the_holes_of_what_is_put_in(self):
        for one, other in product(FEW, FEW):
            here = holes(put_into(one, other))
            there = multiplied(put_into(holes(one), other), holes(other))
            self.assertEqual(Counter(here), Counter(there))

    def test_wrong_holders(self):
        for bad in WRONG:
            self.refused(BadHolder, {"value": bad}, put_into, bad, 13)
            self.refused(BadHolder, {"value": bad}, put_into, GREAT, bad)
            self.refused(BadHolder, {"value": bad}, put_into, (), bad)


class ShapesAndParts(Case):

    def test_numbers_of_all_shapes(self):
        for one, other in SMALL_PAIRS:
            for number, ((shape, shapes), _) in enumerate(put(one, other)):
                self.assertEqual(shape_into(one, other, shape, shapes), number)
                self.assertEqual(parts_into(one, other, number), (shape, shapes))
                self.assertTrue(plain_throughout(parts_into(one, other, Number(number))))

    def test_to_the_letter(self):
        self.assertEqual(shape_into((0, 2), (1, 3, 0), 1, (2, 1)), 8)
        self.assertEqual(parts_into((0, 2), (1, 3, 0), 8), (1, (2, 1)))
        self.assertEqual(shape_into((1,), GREAT, 0, (59,)), 59)
        self.assertEqual(parts_into(GREAT, (1,), 59), (59, (0,) * 12))

    def test_the_shape(self):
        for bad in STRANGE + STRANGE_TUPLES + [-1, 2, 60, MOST, 10 ** 6000, (), (0,)]:
            self.refused(BadIndex, {"value": bad}, shape_into, (2, 1), (1,), bad, None)
            self.refused(BadIndex, {"value": bad}, filling_into, (2, 1), (1,), bad, None)
        self.refused(BadIndex, {"value": 0}, shape_into, (), (1,), 0, ())
        self.refused(BadIndex, {"value": 0}, filling_into, (), (1,), 0, ())

    def test_the_shapes(self):
        for bad in STRANGE + STRANGE_INTEGERS + [(), (0,), (0, 0, 0), [0, 0], "00", 0, {0: 0, 1: 0}]:
            self.refused(BadParameter, {"value": bad}, shape_into, (2, 0), (1, 2), 0, bad)
        for bad in STRANGE + STRANGE_INTEGERS + [(0,)]:
            self.refused(BadParameter, {"value": bad}, shape_into, (2, 0), (1, 2), 1, bad)
        for bad in STRANGE + STRANGE_INTEGERS + STRANGE_TUPLES + [2, 60, MOST, ()]:
            self.refused(BadIndex, {"value": bad}, shape_into, (2, 0), (1, 2), 0, (bad, None))
            self.refused(BadIndex, {"value": bad}, shape_into, (2, 0), (1, 2), 0, (1, bad))
        self.assertEqual(shape_into((2, 0), (1, 2), 1, ()), 4)

    def test_bounds_behind_the_shapes(self):
        for one, other, most in (((2,), (0,) * 8, 60), ((3,), (5,), 12), ((2,), (12,) * 8, 60)):
            shapes = (0,) * one[0]
            self.refused(TooGreat, {"most": most}, shape_into, one, other, 0, shapes)
            self.refused(BadIndex, {"value": 1}, shape_into, one, other, 1, shapes)
            self.refused(BadParameter, {"value": None}, shape_into, one, other, 0, None)
            self.refused(BadIndex, {"value": 60}, shape_into, one, other, 0, (60,) + shapes[1:])
            self.refused(BadIndex, {"value": 60}, shape_into, one, other, 0, shapes[1:] + (60,))

    def test_the_number(self):
        for bad in STRANGE + STRANGE_TUPLES + [-1, 6, 60, MOST, 10 ** 6000, (), (0,)]:
            self.refused(BadIndex, {"value": bad}, parts_into, (2, 1), (1, 0), bad)
        self.assertEqual(parts_into((2, 1), (1, 0), 5), (1, (1,)))
        self.refused(BadIndex, {"value": 0}, parts_into, (), (), 0)
        self.refused(BadIndex, {"value": 0}, parts_into, (2,), (), 0)

    def test_bounds_ahead_of_the_number(self):
        for one, other, most in (((2,), (0,) * 8, 60), ((3,), (5,), 12), ((2,), (12,) * 8, 60), (GREAT, GREAT, 60)):
            for number in (0, None, -1, 60):
                self.refused(TooGreat, {"most": most}, parts_into, one, other, number)

    def test_holders_first(self):
        for bad in WRONG:
            for function, rest in ((shape_into, (None, None)), (parts_into, (None,)), (filling_into, (None, None)),
                                   (fillings_out, (None,))):
                self.refused(BadHolder, {"value": bad}, function, bad, 13, *rest)
                self.refused(BadHolder, {"value": bad}, function, GREAT, bad, *rest)


class Fillings(Case):

    def test_things_one_after_the_other(self):
        self.assertEqual(filling_into((2, 1), (2, 0, 1), 0, ((2, (5,)), (0, (6, 7)))), (6, (5, 6, 7)))
        self.assertEqual(fillings_out((2, 1), (2, 0, 1), (6, (5, 6, 7))), (0, ((2, (5,)), (0, (6, 7)))))
        self.assertEqual(filling_into((0, 1), (1,), 1, ((0, (MOST,)),)), (1, (MOST,)))
        self.assertEqual(filling_into((0, 1), (1,), 0, ()), (0, ()))

    def test_all_fillings_of_small_holders(self):
        for one, other in product(FEW, FEW):
            whole, found = put(one, other), []
            inner = fillings(other, 2)
            for shape, size in enumerate(one):
                for parts in product(inner, repeat=size):
                    filling = filling_into(one, other, shape, parts)
                    name = (shape, tuple(part for part, _ in parts))
                    things = {(p, q): thing for p, (_, row) in enumerate(parts) for q, thing in enumerate(row)}
                    self.assertEqual(filling, spelled.as_filling(whole, name, things))
                    self.assertEqual(fillings_out(one, other, filling), (shape, parts))
                    found.append(filling)
            self.assertEqual(sorted(found), fillings(spelled.sizes(whole), 2))

    def test_wrong_fillings(self):
        good = (1, (5, 6))
        for bad in STRANGE + STRANGE_INTEGERS + [(), (good,), (good,) * 3, [good, good], {0: good, 1: good}]:
            self.refused(BadParameter, {"value": bad}, filling_into, (2,), (1, 2), 0, bad)
        wrong = STRANGE + STRANGE_TUPLES + STRANGE_INTEGERS + [(), (0, ()), (1, (5,)), (2, (5, 6)), (1, (5, MOST + 1)),
                                                              (1, [5, 6]), [1, (5, 6)], (1, (5, 6), 0), (1, (5, -1))]
        for bad in wrong:
            self.refused(BadFilling, {"value": bad}, filling_into, (2,), (1, 2), 0, (bad, None))
            self.refused(BadFilling, {"value": bad}, filling_into, (2,), (1, 2), 0, (good, bad))

    def test_bounds_behind_the_fillings(self):
        for one, other, most in (((2,), (0,) * 8, 60), ((3,), (5,), 12), ((2,), (12,) * 8, 60)):
            parts = ((0, (7,) * other[0]),) * one[0]
            self.refused(TooGreat, {"most": most}, filling_into, one, other, 0, parts)
            self.refused(BadIndex, {"value": None}, filling_into, one, other, None, parts)
            self.refused(BadParameter, {"value": ()}, filling_into, one, other, 0, ())
            self.refused(BadFilling, {"value": None}, filling_into, one, other, 0, parts[1:] + (None,))

    def test_a_filling_of_what_is_put_in(self):
        wrong = STRANGE + STRANGE_TUPLES + STRANGE_INTEGERS + [(), (0, (5,)), (1, (5, 6)), (4, ()), (0, (5, MOST + 1)), (3, (5,))]
        for bad in wrong:
            self.refused(BadFilling, {"value": bad}, fillings_out, (2,), (1, 0), bad)
        for one, other, most in (((2,), (0,) * 8, 60), ((3,), (5,), 12), ((2,), (12,) * 8, 60)):
            for filling in (None, (0, ()), (0, (1,) * 15)):
                self.refused(TooGreat, {"most": most}, fillings_out, one, other, filling)

    def test_at_the_bounds(self):
        one, other = (6,) * 60, (2,)
        parts = tuple((0, (place, MOST)) for place in range(6))
        filling = self.quick(filling_into, one, other, 59, parts)
        self.assertEqual(self.quick(fillings_out, one, other, filling), (59, parts))
        self.assertEqual(self.quick(parts_into, (1,), GREAT, 59), (0, (59,)))

    def test_only_plain_values_come_back(self):
        parts = ((Number(0), (Number(5),)),)
        self.assertTrue(plain_throughout(filling_into((Number(1),), (1,), Number(0), parts)))
        self.assertTrue(plain_throughout(fillings_out((1,), (1,), (Number(0), (Number(5),)))))
        self.assertTrue(plain_throughout(parts_into((Number(1),), (1,), 0)))
        self.assertTrue(plain_throughout(shape_into((1,), (1,), Number(0), (Number(0),))))
        self.assertTrue(plain_throughout(put_into((Number(2),), (Number(2),))))


class BothInto(Case):

    def quads(self):
        few = [(), (0,), (1,), (2,), (0, 1), (1, 1)]
        for holders in product(few, few, few, few):
            for first in programs(holders[0], holders[1])[:3]:
                for second in programs(holders[2], holders[3])[-3:]:
                    yield holders, first, second

    def spelled_both(self, holders, first, second):
        a, b, c, d = holders

        def lead_name(name):
            shape, shapes = name
            to, places = first[shape]
            name = (to, tuple(second[shapes[place]][0] for place in places))
            return name, lambda at: (places[at[0]], second[shapes[places[at[0]]]][1][at[1]])

        return spelled.program_between(put(a, c), put(b, d), lead_name)

    def test_as_told(self):
        for holders, first, second in self.quads():
            found = both_into(holders, first, second)
            self.assertEqual(found, self.spelled_both(holders, first, second))

    def test_the_example(self):
        holders = ((1,), (2,), (2,), (1,))
        self.assertEqual(both_into(holders, ((0, (0, 0)),), ((0, (1,)),)), ((0, (1, 1)),))
        self.assertEqual((put_into((1,), (2,)), put_into((2,), (1,))), ((2,), (2,)))

    def test_the_first_with_fillings_as_things_the_second_in_each_place(self):
        for holders, first, second in list(self.quads())[::7]:
            a, b, c, d = holders
            program = both_into(holders, first, second)
            for filling in fillings(put_into(a, c), 2):
                shape, parts = fillings_out(a, c, filling)
                to, places = first[shape]
                moved = tuple(lead(second, parts[place]) for place in places)
                self.assertEqual(fillings_out(b, d, lead(program, filling)), (to, moved))

    def test_one_behind_the_other(self):
        middles = [((2,), (1, 2), (2,)), ((0, 1), (1, 0, 1), (1, 0)), ((1,), (0, 2), (0, 2))]
        for (a, b, c), (d, e, f) in product(middles, middles):
            for first, then in product(programs(a, b)[::2], programs(b, c)[::3]):
                for second, more in ((programs(d, e)[-1], programs(e, f)[-1]), (programs(d, e)[0], programs(e, f)[-2])):
                    ahead = both_into((a, b, d, e), first, second)
                    behind = both_into((b, c, e, f), then, more)
                    whole = both_into((a, c, d, f), one_behind(a, b, c, first, then), one_behind(d, e, f, second, more))
                    found = one_behind(put_into(a, d), put_into(b, e), put_into(c, f), ahead, behind)
                    self.assertEqual(found, whole)

    def test_nothing_changed(self):
        for one, other in product(FEW, FEW):
            self.assertEqual(both_into((one, one, other, other), still(one), still(other)), still(put_into(one, other)))

    def test_the_holders(self):
        for bad in STRANGE + STRANGE_INTEGERS + STRANGE_TUPLES + [(), ((1,),) * 3, ((1,),) * 5, [(1,)] * 4, (1, 2)]:
            for function, rest in ((both_into, (None, None)), (crossed, ())):
                self.refused(BadParameter, {"value": bad}, function, bad, *rest)
        for bad in WRONG:
            for at in range(4):
                holders = ((1,),) * at + (bad,) + (13,) * (3 - at)
                self.refused(BadHolder, {"value": bad}, both_into, holders, None, None)
                self.refused(BadHolder, {"value": bad}, crossed, holders)

    def test_the_programs(self):
        good = ((0, (0,)),)
        for bad in NO_PROGRAM + [()]:
            self.refused(BadProgram, {"place": ()}, both_into, ((1,),) * 4, bad, (None,))
            self.refused(BadProgram, {"place": ()}, both_into, ((1,),) * 4, good, bad)
        for bad in STRANGE + STRANGE_TUPLES + [(0, (1,)), (1, (0,)), (0, ())]:
            self.refused(BadProgram, {"place": (0,)}, both_into, ((1,),) * 4, (bad,), None)
            self.refused(BadProgram, {"place": (0,)}, both_into, ((1,),) * 4, good, (bad,))
        holders = ((2,), (1,), (3,), (0,))
        self.assertEqual(both_into(holders, ((0, (1,)),), ((0, ()),)), ((0, ()),))
        self.refused(BadProgram, {"place": (0,)}, both_into, holders, ((0, (2,)),), ((0, ()),))
        self.refused(BadProgram, {"place": (0,)}, both_into, holders, ((0, (1,)),), ((0, (1,)),))

    def check_bound(self, holders, most):
        first, second = first_program(holders[0], holders[1]), first_program(holders[2], holders[3])
        self.refused(TooGreat, {"most": most}, both_into, holders, first, second)
        self.refused(BadProgram, {"place": ()}, both_into, holders, None, second)
        self.refused(BadProgram, {"place": ()}, both_into, holders, first, None)
        self.refused(BadProgram, {"place": (0,)}, both_into, holders, first, (None,) * len(second))

    def test_bounds_of_both_made_holders(self):
        many = (1,) * 8
        self.check_bound(((2,), (1,), many, (1,)), 60)
        self.check_bound(((1,), (2,), (1,), many), 60)
        self.check_bound(((3,), (1,), (5,), (1,)), 12)
        self.check_bound(((1,), (3,), (1,), (5,)), 12)
        self.check_bound(((2,), (1,), (12,) * 8, (1,)), 60)
        # The one that the program leads from comes first, whatever the other one is.
        self.check_bound(((7,), (3,), (2,), (1,) * 4), 12)
        self.check_bound(((2,), (3,), many, (5,)), 60)
        self.check_bound(((12,) * 60, (12,) * 60, (12,) * 60, (12,) * 60), 60)

    def test_at_the_bounds(self):
        for one, other in (((6,) * 60, (2,)), ((1,), GREAT), ((1, 1), (12,) * 30), ((2,), (6,) * 7), (GREAT, (1,))):
            first, second = turned_program(one), turned_program(other)
            found = self.quick(both_into, (one, one, other, other), first, second)
            self.assertEqual(found, self.spelled_both((one, one, other, other), first, second))


class Regrouped(Case):

    def spelled_program(self, one, middle, other):
        ahead, behind = put(one, middle), put(middle, other)
        source, target = put(spelled.sizes(ahead), other), put(one, spelled.sizes(behind))

        def lead_name(name):
            number, shapes = name
            (shape, parts), places = ahead[number]
            at = {place: shapes[number] for number, place in enumerate(places)}
            groups = [tuple(at[(p, q)] for q in range(middle[part])) for p, part in enumerate(parts)]
            numbers = tuple(spelled.number_of(behind, (part, group)) for part, group in zip(parts, groups))

            def taken_from(place):
                p, inner = place
                q, r = behind[numbers[p]][1][inner]
                return places.index((p, q)), r
            return (shape, numbers), taken_from

        return spelled.program_between(source, target, lead_name)

    def triples(self):
        for one, middle, other in product(FEW, FEW, FEW):
            ahead, behind = put(one, middle), put(middle, other)
            if ahead is not None and behind is not None and put(spelled.sizes(ahead), other) is not None:
                yield one, middle, other

    def test_as_told(self):
        self.assertGreater(len(list(self.triples())), 250)
        for triple in self.triples():
            self.assertEqual(regrouped(*triple), self.spelled_program(*triple))

    def test_it_can_be_undone_and_keeps_the_order_of_places(self):
        for one, middle, other in self.triples():
            program = regrouped(one, middle, other)
            source, target = put_into(put_into(one, middle), other), put_into(one, put_into(middle, other))
            undone = back(source, target, program)
            self.assertEqual(one_behind(source, target, source, program, undone), still(source))
            for size, (_, places) in zip(source, program):
                self.assertEqual(places, tuple(range(size)))

    def test_to_the_letter(self):
        self.assertEqual(regrouped((2,), (1,), (1, 0)), ((0, (0, 1)), (1, (0,)), (2, (0,)), (3, ())))
        self.assertEqual(regrouped((1,), (0, 1), (1, 0)), ((0, ()), (1, (0,)), (2, ())))
        self.assertEqual(regrouped((0, 1), (1, 0), (0, 0)), ((0, ()), (1, ()), (2, ()), (3, ())))

    def test_shapes_may_be_turned_about(self):
        # By the groups of places that come first, shapes come in another order.
        one, middle, other = (2,), (1, 0), (0, 1)
        program = regrouped(one, middle, other)
        self.assertEqual(sorted(to for to, _ in program), list(range(len(program))))
        self.assertEqual(program, self.spelled_program(one, middle, other))

    def test_past_programs(self):
        for (a, b), (c, d), (e, f) in product([((1,), (2,)), ((0, 1), (1, 0)), ((2,), (1,))], repeat=3):
            first, second, third = programs(a, b)[-1], programs(c, d)[-1], programs(e, f)[0]
            ahead = both_into((put_into(a, c), put_into(b, d), e, f), both_into((a, b, c, d), first, second), third)
            behind = both_into((a, b, put_into(c, e), put_into(d, f)), first, both_into((c, d, e, f), second, third))
            source, target = put_into(put_into(a, c), e), put_into(b, put_into(d, f))
            one = one_behind(source, put_into(put_into(b, d), f), target, ahead, regrouped(b, d, f))
            other = one_behind(source, put_into(a, put_into(c, e)), target, regrouped(a, c, e), behind)
            self.assertEqual(one, other)

    def test_bounds_inner_ones_first(self):
        many = (0,) * 8
        refused = [
            ((2,), many, (1,), 60), ((4,), (4,), (1,), 12), ((2,), (12,) * 8, (1,), 60),
            # What is put into `one` first, ahead of all others.
            ((4,), (4,), (0,) * 60, 12), ((2,), many, (7,), 60), ((4,), (4,), (), 12), ((2,), many, (), 60),
            # Then what is put into this.
            ((2,), (2,), (4,), 12), ((2,), (3,), (0, 0), 60), ((2,), (3,), (5, 5), 60),
            # Then what is put into `middle`, even if nothing comes of it.
            ((0,), (2,), many, 60), ((0,), (4,), (4,), 12), ((), (2,), many, 60), ((), (4,), (4,), 12),
            ((), (2,), (12,) * 8, 60),
        ]
        for one, middle, other, most in refused:
            self.refused(TooGreat, {"most": most}, regrouped, one, middle, other)

    def test_wrong_holders(self):
        for bad in WRONG:
            for function in (regrouped, spread):
                self.refused(BadHolder, {"value": bad}, function, bad, 13, 13)
                self.refused(BadHolder, {"value": bad}, function, GREAT, bad, 13)
                self.refused(BadHolder, {"value": bad}, function, GREAT, GREAT, bad)

    def test_at_the_bounds(self):
        for triple in (((6,) * 60, (1,), (2,)), ((1,), (1,), GREAT), (GREAT, (1,), (1,)), ((1,), GREAT, (1,)), ((2,), (3,), (2,)),
                       ((1, 1), (1, 1), (12,) * 15)):
            program = self.quick(regrouped, *triple)
            self.assertEqual(program, self.spelled_program(*triple))

    def test_only_plain_values_come_back(self):
        one = (Number(1),)
        for found in (regrouped(one, one, one), spread(one, one, one), crossed((one,) * 4),
                      both_into((one,) * 4, ((Number(0), (Number(0),)),), ((Number(0), (Number(0),)),))):
            self.assertTrue(plain_throughout(found))


class Spread(Case):

    def spelled_program(self, one, other, inner):
        both, ahead, behind = spelled.multiplied(one, other), put(one, inner), put(other, inner)
        source = put(spelled.sizes(both), inner)
        target = spelled.multiplied(spelled.sizes(ahead), spelled.sizes(behind))

        def lead_name(name):
            number, shapes = name
            (i, j), places = both[number]
            at = {place: shapes[number] for number, place in enumerate(places)}
            here = spelled.number_of(ahead, (i, tuple(at[(0, p)] for p in range(one[i]))))
            there = spelled.number_of(behind, (j, tuple(at[(1, q)] for q in range(other[j]))))

            def taken_from(place):
                side, inner_place = place
                p, r = (ahead[here] if side == 0 else behind[there])[1][inner_place]
                return places.index((side, p)), r
            return (here, there), taken_from

        return spelled.program_between(source, target, lead_name)

    def triples(self):
        for one, other, inner in product(FEW, FEW, FEW):
            if put(spelled.sizes(spelled.multiplied(one, other)), inner) is not None:
                yield one, other, inner

    def test_as_told(self):
        self.assertGreater(len(list(self.triples())), 250)
        for triple in self.triples():
            self.assertEqual(spread(*triple), self.spelled_program(*triple))

    def test_it_can_be_undone_and_keeps_the_order_of_places(self):
        for one, other, inner in self.triples():
            program = spread(one, other, inner)
            source = put_into(multiplied(one, other), inner)
            target = multiplied(put_into(one, inner), put_into(other, inner))
            undone = back(source, target, program)
            self.assertEqual(one_behind(source, target, source, program, undone), still(source))
            for size, (_, places) in zip(source, program):
                self.assertEqual(places, tuple(range(size)))

    def test_to_the_letter(self):
        self.assertEqual(spread((1,), (1,), (1, 0)), ((0, (0, 1)), (1, (0,)), (2, (0,)), (3, ())))
        self.assertEqual(spread((1, 0), (0, 1), (2,)), ((0, (0, 1)), (1, (0, 1, 2, 3)), (2, ()), (3, (0, 1))))

    def test_past_programs(self):
        for (a, b), (c, d), (e, f) in product([((1,), (2,)), ((0, 1), (1, 0)), ((2,), (1,))], repeat=3):
            first, second, third = programs(a, b)[-1], programs(c, d)[-1], programs(e, f)[0]
            if max(put_into(multiplied(b, d), f)) > 12:
                continue
            ahead = both_into((multiplied(a, c), multiplied(b, d), e, f), both_multiplied((a, b, c, d), first, second), third)
            halves = (put_into(a, e), put_into(b, f), put_into(c, e), put_into(d, f))
            behind = both_multiplied(halves, both_into((a, b, e, f), first, third), both_into((c, d, e, f), second, third))
            source, target = put_into(multiplied(a, c), e), multiplied(halves[1], halves[3])
            one = one_behind(source, put_into(multiplied(b, d), f), target, ahead, spread(b, d, f))
            other = one_behind(source, multiplied(halves[0], halves[2]), target, spread(a, c, e), behind)
            self.assertEqual(one, other)

    def test_bounds_inner_ones_first(self):
        many = (0,) * 8
        refused = [
            (many, many, (1,), 60), ((6,), (7,), (1,), 12), ((12,) * 8, (12,) * 8, (1,), 60),
            # The product of both first, ahead of all others.
            ((6,), (7,), (0, 0), 12), (many + (7,), many, (2,), 60), ((6,), (7,), (), 12), (many, many, (), 60),
            # Then what is put into it.
            ((3,), (4,), (2,), 12), ((3,), (3,), (0, 0), 60), ((3,), (3,), (5, 5), 60),
            # Then what is put into each of both, even if nothing comes of it.
            ((6,), (), (0, 0), 60), ((6,), (), (3,), 12), ((), (6,), (0, 0), 60), ((), (6,), (3,), 12), ((), (6,), (5, 5), 60),
        ]
        for one, other, inner, most in refused:
            self.refused(TooGreat, {"most": most}, spread, one, other, inner)

    def test_at_the_bounds(self):
        for triple in (((3,) * 6, (3,) * 10, (2,)), ((6,) * 6, (6,) * 10, (1,)), ((0,), (1,), GREAT), ((1,), (1,), (6,) * 7),
                       (GREAT, (0,), (1,)), ((0,) * 60, (1,), (12,))):
            self.assertEqual(self.quick(spread, *triple), self.spelled_program(*triple))


class Crossed(Case):

    def spelled_program(self, a, b, c, d):
        ahead, behind, outer, inner = put(a, b), put(c, d), spelled.beside(a, c), spelled.beside(b, d)
        source = spelled.beside(spelled.sizes(ahead), spelled.sizes(behind))
        target = put(spelled.sizes(outer), spelled.sizes(inner))

        def lead_name(name):
            ((i, shapes), places), ((j, more), others) = ahead[name[0]], behind[name[1]]
            number = spelled.number_of(outer, (i, j))
            parts = tuple(spelled.number_of(inner, (shapes[p], more[q])) for p, q in outer[number][1])

            def taken_from(place):
                p, q = outer[number][1][place[0]]
                r, s = inner[parts[place[0]]][1][place[1]]
                return places.index((p, r)), others.index((q, s))
            return (number, parts), taken_from

        return spelled.program_between(source, target, lead_name)

    def quads(self):
        few = [(), (0,), (1,), (2,), (0, 1), (1, 1)]
        for quad in product(few, repeat=4):
            a, b, c, d = quad
            ahead, behind = put(a, b), put(c, d)
            target = put(spelled.sizes(spelled.beside(a, c)), spelled.sizes(spelled.beside(b, d)))
            wide = max(spelled.sizes(ahead), default=0) * max(spelled.sizes(behind), default=0)
            if len(ahead) * len(behind) <= 60 and wide <= 12 and target is not None:
                yield quad

    def test_as_told(self):
        self.assertGreater(len(list(self.quads())), 900)
        for quad in self.quads():
            self.assertEqual(crossed(quad), self.spelled_program(*quad))

    def test_from_and_to_what_is_told(self):
        for a, b, c, d in list(self.quads())[::3]:
            source = beside(put_into(a, b), put_into(c, d))
            target = put_into(beside(a, c), beside(b, d))
            program = crossed((a, b, c, d))
            self.assertEqual(need_program(source, target, program), program)

    def test_to_the_letter(self):
        # In each of two places two things: rows of the one, columns of the other.
        self.assertEqual(crossed(((2,), (1,), (2,), (1,))), ((0, (0, 1, 2, 3)),))
        self.assertEqual(crossed(((1,), (2,), (2,), (1,))), ((0, (0, 2, 1, 3)),))
        self.assertEqual(crossed(((2,), (2,), (1,), (1,))), ((0, (0, 1, 2, 3)),))
        self.assertEqual(crossed(((1,), (0, 1), (0,), (1,))), ((0, ()), (0, ())))

    def test_it_cannot_always_be_undone(self):
        quad = ((1,), (0, 1), (0,), (1,))
        source, target = beside((0, 1), (0,)), put_into((0,), beside((0, 1), (1,)))
        self.assertEqual((source, target), ((0, 0), (0,)))
        self.refused(NoRow, {}, back, source, target, crossed(quad))
        found = {False: 0, True: 0}
        for a, b, c, d in self.quads():
            source, target = beside(put_into(a, b), put_into(c, d)), put_into(beside(a, c), beside(b, d))
            program = crossed((a, b, c, d))
            undone = is_one_to_one(source, target, program) and is_onto(source, target, program)
            found[undone] += 1
            if not undone:
                self.refused(NoRow, {}, back, source, target, program)
            if not same_counts(source, target):
                self.assertFalse(undone)
        self.assertGreater(min(found.values()), 100)

    def test_past_programs(self):
        steps = [((1,), (2,)), ((0, 1), (1, 0)), ((2,), (1,)), ((1,), (1, 1))]
        checked = 0
        for quad in product(steps, repeat=4):
            try:
                one, other = self.both_ways(*quad)
            except TooGreat:
                continue
            checked += 1
            self.assertEqual(one, other)
        self.assertGreater(checked, 100)

    def both_ways(self, one, two, three, four):
        """Return crossed behind four programs, and the four programs behind crossed."""
        (a, e), (b, f), (c, g), (d, h) = one, two, three, four
        first, second, third, fourth = programs(a, e)[-1], programs(b, f)[-1], programs(c, g)[0], programs(d, h)[-1]
        ahead = both_beside((put_into(a, b), put_into(e, f), put_into(c, d), put_into(g, h)),
                            both_into((a, e, b, f), first, second), both_into((c, g, d, h), third, fourth))
        behind = both_into((beside(a, c), beside(e, g), beside(b, d), beside(f, h)),
                           both_beside((a, e, c, g), first, third), both_beside((b, f, d, h), second, fourth))
        source, target = beside(put_into(a, b), put_into(c, d)), put_into(beside(e, g), beside(f, h))
        middle, other = beside(put_into(e, f), put_into(g, h)), put_into(beside(a, c), beside(b, d))
        return (one_behind(source, middle, target, ahead, crossed((e, f, g, h))),
                one_behind(source, other, target, crossed((a, b, c, d)), behind))

    def test_bounds_inner_ones_first(self):
        many = (0,) * 8
        refused = [
            # B put into A, then D put into C.
            ((4,), (4,), (2,), many, 12), ((2,), many, (4,), (4,), 60), ((2,), (12,) * 8, (0,), (0,), 60),
            ((0,), (0,), (4,), (4,), 12), ((0,), (0,), (2,), many, 60), ((4,), (4,), (), (), 12), ((), (), (2,), many, 60),
            # Both beside one another, ahead of what the program leads to.
            ((2,), (2,), (2,), (2,), 12), ((4,), (0, 0), (4,), (0, 0), 60), ((1,), many, (1,), many, 60),
            # A beside C, then B beside D, even if nothing comes of it.
            ((4,), (), (4,), (), 12), ((1,) * 8, (), (1,) * 8, (), 60), ((12,) * 8, (), (12,) * 8, (), 60),
            ((0,), many, (0,), many, 60), ((0,), (4,), (0,), (4,), 12), ((), (12,) * 8, (), (12,) * 8, 60),
            # At last the one put into the other.
            ((2,), (2, 0), (2,), (1, 1), 60),
        ]
        for a, b, c, d, most in refused:
            self.refused(TooGreat, {"most": most}, crossed, (a, b, c, d))

    def test_at_the_bounds(self):
        for quad in (((3,) * 6, (1,), (4,) * 10, (1,)), ((1,), (3,) * 6, (1,), (4,) * 10), ((2,), (3,), (2,), (1,)),
                     ((1,), (12,) * 30, (1, 1), (1,)), ((0,) * 60, GREAT[:1], (1,), (1,)), ((1,), GREAT, (0,), (1,))):
            self.assertEqual(self.quick(crossed, quad), self.spelled_program(*quad))


if __name__ == "__main__":
    unittest.main()
