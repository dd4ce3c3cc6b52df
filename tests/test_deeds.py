"""[7], [21], [22] Deeds on holders: added, multiplied, beside, and the programs between them."""

import unittest
from itertools import product

import spelled
from holdfills.deeds import added, beside, both_added, both_beside, both_multiplied, either, first_of, into_first, into_second
from holdfills.deeds import multiplied, paired, second_of
from holdfills.errors import BadHolder, BadParameter, BadProgram, TooGreat
from holdfills.holders import count_fillings
from holdfills.programs import done, need_program, one_behind, still
from raising import Case
from samples import Number, SMALL_HOLDERS, STRANGE, STRANGE_INTEGERS, STRANGE_TUPLES, TINY_HOLDERS
from samples import fillings, lead, plain_throughout, programs

GREAT = (12,) * 60
WRONG = STRANGE + STRANGE_TUPLES + STRANGE_INTEGERS + [(13,), (-1,), (0,) * 61, [1], (1, None), ((1,),), 0, "12"]
# What is no program, whatever the holders are, but for those from the holder without shapes.
NO_PROGRAM = STRANGE + STRANGE_INTEGERS + [[(0, ())], {0: (0, ())}]
MAKING = {added: spelled.added, multiplied: spelled.multiplied, beside: spelled.beside}
BOTH = {both_added: added, both_multiplied: multiplied, both_beside: beside}
FEW = [(), (0,), (1,), (2,), (0, 1)]


def to_nothing(holder):
    """Return the program to (0,) that forgets all things."""
    return ((0, ()),) * len(holder)


def to_first(holder, goal):
    """Return a program that leads all shapes to the shape 0 of the goal, and there their first thing to each place."""
    return ((0, (0,) * goal[0]),) * len(holder)


class Making(Case):

    def test_shapes_and_places_as_told(self):
        for function, spell in MAKING.items():
            for one in SMALL_HOLDERS:
                for other in SMALL_HOLDERS:
                    found = function(one, other)
                    self.assertEqual(found, spelled.sizes(spell(one, other)))
                    self.assertTrue(plain_throughout(found))

    def test_to_the_letter(self):
        self.assertEqual(added((2, 0), (1,)), (2, 0, 1))
        self.assertEqual(multiplied((2, 0), (1, 3)), (3, 5, 1, 3))
        self.assertEqual(beside((2, 1), (1, 3, 0)), (2, 6, 0, 1, 3, 0))

    def test_how_many_fillings(self):
        for one in SMALL_HOLDERS:
            for other in SMALL_HOLDERS:
                for many in (0, 1, 2, 5):
                    here, there = count_fillings(one, many), count_fillings(other, many)
                    self.assertEqual(count_fillings(added(one, other), many), here + there)
                    self.assertEqual(count_fillings(multiplied(one, other), many), here * there)

    def test_the_edges(self):
        for holder in ((), (0,), GREAT):
            self.assertEqual(added((), holder), holder)
            self.assertEqual(added(holder, ()), holder)
            for function in (multiplied, beside):
                self.assertEqual(function((), holder), ())
                self.assertEqual(function(holder, ()), ())
            self.assertEqual(multiplied((0,), holder), holder)
            self.assertEqual(multiplied(holder, (0,)), holder)
            self.assertEqual(beside((0,), holder), (0,) * len(holder))
            self.assertEqual(beside((1,), holder), holder)
            self.assertEqual(beside(holder, (1,)), holder)

    def test_60_shapes_and_one_more(self):
        self.assertEqual(added((1,) * 59, (2,)), (1,) * 59 + (2,))
        self.assertEqual(added(GREAT[:30], GREAT[:30]), GREAT)
        for one, other in (((0,) * 60, (0,)), ((0,), GREAT), (GREAT, GREAT), ((1,) * 30, (2,) * 31)):
            self.refused(TooGreat, {"most": 60}, added, one, other)
        for function in (multiplied, beside):
            self.assertEqual(len(function((1,) * 6, (2,) * 10)), 60)
            self.assertEqual(len(function((0,) * 60, (1,))), 60)
            for one, other in (((0,) * 31, (0,) * 2), ((0,) * 8, (0,) * 8), (GREAT, GREAT)):
                self.refused(TooGreat, {"most": 60}, function, one, other)

    def test_12_places_and_one_more(self):
        self.assertEqual(multiplied((5, 12), (0, 0)), (5, 5, 12, 12))
        self.assertEqual(multiplied((6,) * 6, (6,) * 10), GREAT)
        self.assertEqual(beside((3,) * 6, (4,) * 10), GREAT)
        self.assertEqual(beside((12,) * 60, (0,)), (0,) * 60)
        for one, other in (((6,), (7,)), ((0, 12), (0, 1)), ((1, 0), (0, 12)), ((1,), GREAT)):
            self.refused(TooGreat, {"most": 12}, multiplied, one, other)
        for one, other in (((2,), (7,)), ((0, 12), (0, 2)), ((4, 0), (0, 4)), ((2,), GREAT)):
            self.refused(TooGreat, {"most": 12}, beside, one, other)

    def test_both_at_once(self):
        # The number of shapes is told first.
        for function in (multiplied, beside):
            self.refused(TooGreat, {"most": 60}, function, (12,) * 8, (12,) * 8)
            self.refused(TooGreat, {"most": 60}, function, GREAT, (12, 12))

    def test_wrong_holders(self):
        for function in (added, multiplied, beside, into_first, into_second, first_of, second_of):
            for bad in WRONG:
                self.refused(BadHolder, {"value": bad}, function, bad, 13)
                self.refused(BadHolder, {"value": bad}, function, GREAT, bad)
                self.refused(BadHolder, {"value": bad}, function, (), bad)

    def test_only_plain_values_come_back(self):
        one, other = (Number(2), Number(1)), (Number(1),)
        for function in (added, multiplied, beside, into_first, into_second, first_of, second_of):
            self.assertTrue(plain_throughout(function(one, other)))


class Keeping(Case):

    def test_into_what_is_added(self):
        for one in SMALL_HOLDERS:
            for other in SMALL_HOLDERS:
                whole = spelled.added(one, other)
                for function, side, holder in ((into_first, 0, one), (into_second, 1, other)):
                    expected = spelled.program_between(
                        spelled.plain(holder), whole, lambda shape: ((side, shape), lambda place: place[1]))
                    self.assertEqual(function(one, other), expected)

    def test_halves_of_what_is_multiplied(self):
        for one in SMALL_HOLDERS:
            for other in SMALL_HOLDERS:
                whole = spelled.multiplied(one, other)
                for function, side, holder in ((first_of, 0, one), (second_of, 1, other)):
                    expected = spelled.program_between(
                        whole, spelled.plain(holder), lambda name: (name[side], lambda place: (side, place)))
                    self.assertEqual(function(one, other), expected)

    def test_to_the_letter(self):
        self.assertEqual(into_first((2, 0), (1,)), ((0, (0, 1)), (1, ())))
        self.assertEqual(into_second((2, 0), (1,)), ((2, (0,)),))
        self.assertEqual(first_of((2, 0), (1,)), ((0, (0, 1)), (1, ())))
        self.assertEqual(second_of((2, 0), (1,)), ((0, (2,)), (0, (0,))))

    def test_bounds_of_what_is_made(self):
        for function in (into_first, into_second):
            self.refused(TooGreat, {"most": 60}, function, (0,) * 60, (0,))
            self.assertEqual(len(function(GREAT[:30], GREAT[:30])), 30)
        for function in (first_of, second_of):
            self.refused(TooGreat, {"most": 60}, function, (12,) * 8, (12,) * 8)
            self.refused(TooGreat, {"most": 12}, function, (6,), (7,))
            self.assertEqual(len(self.quick(function, (6,) * 6, (6,) * 10)), 60)


class EitherAndPaired(Case):

    def test_from_what_is_added_of_exactly_one_pair(self):
        for one, other, goal in product(FEW, FEW, FEW + [(1, 1)]):
            whole = added(one, other)
            pairs = list(product(programs(one, goal), programs(other, goal)))
            found = [either(one, other, goal, first, second) for first, second in pairs]
            self.assertEqual(sorted(found), programs(whole, goal))
            for (first, second), both in zip(pairs, found):
                self.assertEqual(one_behind(one, whole, goal, into_first(one, other), both), first)
                self.assertEqual(one_behind(other, whole, goal, into_second(one, other), both), second)

    def test_to_what_is_multiplied_of_exactly_one_pair(self):
        for holder, one, other in product(FEW + [(1, 1)], FEW, FEW):
            whole = multiplied(one, other)
            pairs = list(product(programs(holder, one), programs(holder, other)))
            found = [paired(holder, one, other, first, second) for first, second in pairs]
            self.assertEqual(sorted(found), programs(holder, whole))
            for (first, second), both in zip(pairs, found):
                self.assertEqual(one_behind(holder, whole, one, both, first_of(one, other)), first)
                self.assertEqual(one_behind(holder, whole, other, both, second_of(one, other)), second)

    def test_to_the_letter(self):
        self.assertEqual(either((2,), (1,), (1, 0), ((0, (1,)),), ((1, ()),)), ((0, (1,)), (1, ())))
        self.assertEqual(paired((2,), (1, 1), (2,), ((1, (0,)),), ((0, (1, 0)),)), ((1, (0, 1, 0)),))

    def test_bounds_behind_all_parameters(self):
        one, more = (0,) * 60, (0,)
        self.refused(TooGreat, {"most": 60}, either, one, more, more, to_nothing(one), to_nothing(more))
        self.refused(BadHolder, {"value": None}, either, one, more, None, None, None)
        self.refused(BadProgram, {"place": ()}, either, one, more, more, None, None)
        self.refused(BadProgram, {"place": ()}, either, one, more, more, to_nothing(one), None)
        for one, other, most in (((0,) * 8, (0,) * 8, 60), ((6,), (7,), 12), ((12,) * 8, (12,) * 8, 60)):
            first, second = to_first((1,), one), to_first((1,), other)
            self.refused(TooGreat, {"most": most}, paired, (1,), one, other, first, second)
            self.refused(BadProgram, {"place": ()}, paired, (1,), one, other, None, None)
            self.refused(BadProgram, {"place": ()}, paired, (1,), one, other, first, None)
            self.refused(BadProgram, {"place": (0,)}, paired, (1,), one, other, first, (None,))
            # No program is needed from the holder without shapes, but the product is made.
            self.refused(TooGreat, {"most": most}, paired, (), one, other, (), ())

    def test_the_order_of_the_errors(self):
        for bad in WRONG:
            self.refused(BadHolder, {"value": bad}, either, bad, 13, 13, None, None)
            self.refused(BadHolder, {"value": bad}, either, (1,), bad, 13, None, None)
            self.refused(BadHolder, {"value": bad}, either, (1,), (1,), bad, None, None)
            self.refused(BadHolder, {"value": bad}, paired, bad, 13, 13, None, None)
            self.refused(BadHolder, {"value": bad}, paired, (1,), bad, 13, None, None)
            self.refused(BadHolder, {"value": bad}, paired, (1,), (1,), bad, None, None)
        good = ((0, (0,)),)
        for function in (either, paired):
            for bad in NO_PROGRAM + [()]:
                self.refused(BadProgram, {"place": ()}, function, (1,), (1,), (1,), bad, (None,))
                self.refused(BadProgram, {"place": ()}, function, (1,), (1,), (1,), good, bad)
            for bad in STRANGE + STRANGE_TUPLES + [(0, (1,)), (1, (0,)), (0, ())]:
                self.refused(BadProgram, {"place": (0,)}, function, (1,), (1,), (1,), (bad,), None)
                self.refused(BadProgram, {"place": (0,)}, function, (1,), (1,), (1,), good, (bad,))

    def test_each_program_is_checked_between_its_own_holders(self):
        self.assertEqual(either((1,), (2,), (0, 1), ((1, (0,)),), ((1, (1,)),)), ((1, (0,)), (1, (1,))))
        self.refused(BadProgram, {"place": (0,)}, either, (1,), (2,), (0, 1), ((1, (1,)),), ((1, (1,)),))
        self.assertEqual(paired((2,), (1,), (0,), ((0, (1,)),), ((0, ()),)), ((0, (1,)),))
        self.refused(BadProgram, {"place": (0,)}, paired, (2,), (1,), (0,), ((0, ()),), ((0, ()),))
        self.refused(BadProgram, {"place": (0,)}, paired, (2,), (1,), (0,), ((0, (1,)),), ((0, (1,)),))

    def test_only_plain_values_come_back(self):
        program = ((Number(0), (Number(0),)),)
        self.assertTrue(plain_throughout(either((1,), (1,), (1,), program, program)))
        self.assertTrue(plain_throughout(paired((1,), (1,), (1,), program, program)))


class Both(Case):

    def quads(self):
        """Return four holders with a program from A to B and one from C to D, not too many."""
        few = [(), (0,), (1,), (2,), (0, 1)]
        for holders in product(few, few, few, few):
            for first in programs(holders[0], holders[1])[:3]:
                for second in programs(holders[2], holders[3])[-3:]:
                    yield holders, first, second

    def spelled_both(self, function, holders, first, second):
        """Return what the program should be, by the names of shapes and places."""
        a, b, c, d = holders

        def led_pair(name):
            return (first[name[0]][0], second[name[1]][0])

        def halves(name):
            rows = (first[name[0]][1], second[name[1]][1])
            return led_pair(name), lambda place: (place[0], rows[place[0]][place[1]])

        def pairs(name):
            return led_pair(name), lambda place: (first[name[0]][1][place[0]], second[name[1]][1][place[1]])

        def sides(name):
            to, places = (first, second)[name[0]][name[1]]
            return (name[0], to), lambda place: (name[0], places[place[1]])

        spell = {both_added: (spelled.added, sides), both_multiplied: (spelled.multiplied, halves),
                 both_beside: (spelled.beside, pairs)}
        make, act = spell[function]
        return spelled.program_between(make(a, c), make(b, d), act)

    def test_as_told(self):
        for holders, first, second in self.quads():
            for function, make in BOTH.items():
                found = function(holders, first, second)
                self.assertEqual(found, self.spelled_both(function, holders, first, second))
                source, target = make(holders[0], holders[2]), make(holders[1], holders[3])
                self.assertEqual(need_program(source, target, found), found)

    def test_to_the_letter(self):
        holders = ((2,), (1, 2), (1,), (2,))
        first, second = ((1, (1, 0)),), ((0, (0, 0)),)
        self.assertEqual(both_added(holders, first, second), ((1, (1, 0)), (2, (0, 0))))
        self.assertEqual(both_multiplied(holders, first, second), ((1, (1, 0, 2, 2)),))
        self.assertEqual(both_beside(holders, first, second), ((1, (1, 1, 0, 0)),))

    def test_what_both_do_with_things(self):
        # In holders beside one another things stand in a square: rows by the first one, columns by the second one.
        holders = ((2,), (3,), (3,), (2,))
        first, second = ((0, (1, 1, 0)),), ((0, (2, 0)),)
        program = both_beside(holders, first, second)
        self.assertEqual(done((6,), (6,), program, (0, (1, 2, 3, 4, 5, 6))), (0, (6, 4, 6, 4, 3, 1)))

    def test_nothing_changed_and_one_behind_the_other(self):
        for function, make in BOTH.items():
            for one in FEW:
                for other in FEW:
                    found = function((one, one, other, other), still(one), still(other))
                    self.assertEqual(found, still(make(one, other)))
        middles = [((2,), (1, 2), (2,)), ((0, 1), (1, 0, 1), (1, 0)), ((1,), (0, 2), (0, 2))]
        for (a, b, c), (d, e, f) in product(middles, middles):
            for first, then in product(programs(a, b)[::2], programs(b, c)[::3]):
                second, more = programs(d, e)[-1], programs(e, f)[-1]
                for function, make in BOTH.items():
                    ahead = function((a, b, d, e), first, second)
                    behind = function((b, c, e, f), then, more)
                    whole = function((a, c, d, f), one_behind(a, b, c, first, then), one_behind(d, e, f, second, more))
                    self.assertEqual(one_behind(make(a, d), make(b, e), make(c, f), ahead, behind), whole)

    def test_the_holders(self):
        for function in BOTH:
            for bad in STRANGE + STRANGE_INTEGERS + STRANGE_TUPLES + [(), ((1,),) * 3, ((1,),) * 5, [(1,)] * 4, (1, 2)]:
                if not (isinstance(bad, tuple) and len(bad) == 4):
                    self.refused(BadParameter, {"value": bad}, function, bad, None, None)
            for bad in WRONG:
                for at in range(4):
                    holders = ((1,),) * at + (bad,) + (13,) * (3 - at)
                    self.refused(BadHolder, {"value": bad}, function, holders, None, None)

    def test_the_programs(self):
        good = ((0, (0,)),)
        for function in BOTH:
            for bad in NO_PROGRAM + [()]:
                self.refused(BadProgram, {"place": ()}, function, ((1,),) * 4, bad, (None,))
                self.refused(BadProgram, {"place": ()}, function, ((1,),) * 4, good, bad)
            for bad in STRANGE + STRANGE_TUPLES + [(0, (1,)), (1, (0,)), (0, ())]:
                self.refused(BadProgram, {"place": (0,)}, function, ((1,),) * 4, (bad,), None)
                self.refused(BadProgram, {"place": (0,)}, function, ((1,),) * 4, good, (bad,))
            # The first one is from A to B, the second one from C to D.
            holders = ((2,), (1,), (3,), (0,))
            function(holders, ((0, (1,)),), ((0, ()),))
            self.refused(BadProgram, {"place": (0,)}, function, holders, ((0, ()),), ((0, ()),))
            self.refused(BadProgram, {"place": (0,)}, function, holders, ((0, (2,)),), ((0, ()),))
            self.refused(BadProgram, {"place": (0,)}, function, holders, ((0, (1,)),), ((0, (1,)),))

    def check_bound(self, function, holders, most):
        """Check that a made holder is refused behind both programs."""
        first, second = to_first(holders[0], holders[1]), to_first(holders[2], holders[3])
        self.refused(TooGreat, {"most": most}, function, holders, first, second)
        self.refused(BadProgram, {"place": ()}, function, holders, None, second)
        self.refused(BadProgram, {"place": ()}, function, holders, first, None)
        self.refused(BadProgram, {"place": (0,)}, function, holders, first, (None,) * len(second))

    def test_bounds_of_both_made_holders(self):
        self.check_bound(both_added, ((1,) * 60, (1,), (1,), (1,)), 60)
        self.check_bound(both_added, ((1,), (1,) * 60, (1,), (1,)), 60)
        self.check_bound(both_added, ((1,), (1,), (1,) * 60, (1,)), 60)
        self.check_bound(both_added, ((1,), (1,), (1,), (1,) * 60), 60)
        for function, wide, tall in ((both_multiplied, (6,), (7,)), (both_beside, (4,), (4,))):
            many = (1,) * 8
            self.check_bound(function, (many, (1,), many, (1,)), 60)
            self.check_bound(function, ((1,), many, (1,), many), 60)
            self.check_bound(function, (wide, (1,), tall, (1,)), 12)
            self.check_bound(function, ((1,), wide, (1,), tall), 12)
            # The one that the program leads from comes first, whatever the other one is.
            self.check_bound(function, (wide, many, tall, many), 12)
            self.check_bound(function, (many, wide, many, tall), 60)
            self.check_bound(function, (wide * 8, (1,), tall * 8, (1,)), 60)

    def test_at_the_bounds(self):
        for function, one, other in ((both_added, GREAT[:30], GREAT[:30]), (both_multiplied, (6,) * 6, (6,) * 10),
                                     (both_beside, (3,) * 6, (4,) * 10)):
            first = tuple((len(one) - 1 - shape, tuple(range(size))[::-1]) for shape, size in enumerate(one))
            second = tuple((len(other) - 1 - shape, tuple(range(size))[::-1]) for shape, size in enumerate(other))
            found = self.quick(function, (one, one, other, other), first, second)
            self.assertEqual(found, self.spelled_both(function, (one, one, other, other), first, second))

    def test_only_plain_values_come_back(self):
        program = ((Number(0), (Number(0),)),)
        for function in BOTH:
            self.assertTrue(plain_throughout(function(((Number(1),),) * 4, program, program)))

    def test_fillings_are_led_as_by_both(self):
        for one, other in product(TINY_HOLDERS[:5], TINY_HOLDERS[:5]):
            whole = added(one, other)
            for first in programs(one, (1, 0))[:4]:
                for second in programs(other, (1, 0))[:4]:
                    both = either(one, other, (1, 0), first, second)
                    for filling in fillings(one, 2):
                        self.assertEqual(lead(both, lead(into_first(one, other), filling)), lead(first, filling))
                    self.assertEqual(need_program(whole, (1, 0), both), both)


if __name__ == "__main__":
    unittest.main()
