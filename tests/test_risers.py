"""[4], [7], [14] Risers: what only lets greater be greater, told by lots."""

import unittest
from collections import namedtuple
from math import prod

from holdfills.errors import BadFilling, BadHolder, BadProgram, NoRow, TooGreat
from holdfills.lots import all_lots, lot_rows
from holdfills.risers import count_risers, need_riser, riser_behind, riser_done, risers_apart
from raising import Case
from samples import MOST, Number, STRANGE, STRANGE_INTEGERS, STRANGE_TUPLES
from samples import families, fillings, lead_riser, levels, lots, named, plain_throughout, risers, rows

HERE = [(), (0,), (1,), (2,), (0, 1), (1, 1), (2, 0), (2, 1)]
THERE = [(), (0,), (1,), (0, 1), (2,)]
GREAT = (12,) * 60
# Of one thing there is nothing to choose.
ITSELF = ((0, (((0,),),)),)
LESS, MORE = ((0, 1),), ((0,), (1,))


def greatest_riser(holder, turn=0):
    """Return a riser to the greatest holder in which each lot is met."""
    return tuple((shape, tuple(lots(size)[(shape * 12 + place * (turn + 1) + turn) % len(lots(size))]
                               for place in range(12))) for shape, size in enumerate(holder))


class NeedRiser(Case):

    def test_each_riser_is_returned(self):
        for holder in HERE:
            for goal in THERE:
                for riser in risers(holder, goal):
                    self.assertEqual(need_riser(holder, goal, riser), riser)

    def test_a_thing_for_each_shape(self):
        good = ((0, ()), (1, (LESS,)))
        self.assertEqual(need_riser((0, 2), (0, 1), good), good)
        wrong = [(), good[:1], good + good[:1], list(good), dict(enumerate(good)), 2, (0, 0, 0)]
        for value in wrong + STRANGE + STRANGE_INTEGERS:
            self.refused(BadProgram, {"place": ()}, need_riser, (0, 2), (0, 1), value)
        for value in STRANGE + STRANGE_TUPLES + [((0, ()),)]:
            self.refused(BadProgram, {"place": ()}, need_riser, (), (0, 1), value)

    def test_each_thing_is_a_pair_of_a_shape_and_as_many_things_as_places(self):
        good = (1, (LESS, MORE))
        wrong = [(), (1,), (1, ()), (1, (LESS,)), (1, (LESS, MORE, LESS)), (0, (LESS, MORE)), (2, (LESS, MORE)), (0, (LESS,)),
                 (-1, (LESS, MORE)), (1, [LESS, MORE]), [1, (LESS, MORE)], (1, (LESS, MORE), 0), (True, (LESS, MORE)),
                 (False, ()), (1.0, (LESS, MORE)), ((1,), (LESS, MORE)), {1: (LESS, MORE)}, LESS, (0, LESS), (0, 0), 0, "ab"]
        wrong += [(value, (LESS, MORE)) for value in STRANGE + STRANGE_INTEGERS] + [(1, value) for value in STRANGE]
        for value in wrong + STRANGE + STRANGE_TUPLES:
            for shape in range(3):
                riser = (good,) * shape + (value,) + (None,) * (2 - shape)
                self.refused(BadProgram, {"place": (shape,)}, need_riser, (2, 2, 2), (0, 2), riser)

    def test_each_of_the_things_is_a_lot_of_the_places(self):
        wrong = [(), ((),), (0,), 0, (0, 1), ((1, 0),), ((0, 0),), ((0,), (0,)), ((0,), (0, 1)), ((1,), (0,)), ((0, 1), (1,)),
                 ((2,),), ((0, 2),), ((-1,),), [(0,)], ([0],), ((0.0,),), ((True,),), ((False,),), {(0,): 0}, "0", ((0,), ())]
        wrong += [(value,) for value in STRANGE] + [((value,),) for value in STRANGE + STRANGE_INTEGERS]
        for value in wrong + STRANGE + STRANGE_INTEGERS + STRANGE_TUPLES:
            for place in range(3):
                pair = (0, (LESS,) * place + (value,) + (None,) * (2 - place))
                good = (0, (LESS, MORE, LESS))
                self.refused(BadProgram, {"place": (0, place)}, need_riser, (2, 2), (3,), (pair, None))
                self.refused(BadProgram, {"place": (1, place)}, need_riser, (2, 2), (3,), (good, pair))

    def test_the_lots_are_those_of_the_places_of_the_first_shape(self):
        for size in range(5):
            for width in range(5):
                for lot in lots(width):
                    riser = ((0, (lot,)),)
                    if lot in lots(size):
                        self.assertEqual(need_riser((size,), (1,), riser), riser)
                    else:
                        self.refused(BadProgram, {"place": (0, 0)}, need_riser, (size,), (1,), riser)

    def test_shapes_are_told_one_after_the_other(self):
        bad = (0, (LESS, ()))
        good = (0, (LESS, LESS))
        self.refused(BadProgram, {"place": (0, 1)}, need_riser, (2, 2, 2), (2,), (bad, None, good))
        self.refused(BadProgram, {"place": (1,)}, need_riser, (2, 2, 2), (2,), (good, None, bad))
        self.refused(BadProgram, {"place": (1, 1)}, need_riser, (2, 2, 2), (2,), (good, bad, ()))
        self.refused(BadProgram, {"place": ()}, need_riser, (2, 2, 2), (2,), (None, bad))

    def test_the_edges(self):
        self.assertEqual(need_riser((), (), ()), ())
        self.assertEqual(need_riser((), GREAT, ()), ())
        self.assertEqual(need_riser((0,), (0,), ((0, ()),)), ((0, ()),))
        self.refused(BadProgram, {"place": (0,)}, need_riser, (0,), (), ((0, ()),))
        for lot in ((), ((),), ((0,),)):
            self.refused(BadProgram, {"place": (0, 0)}, need_riser, (0,), (1,), ((0, (lot,)),))
        whole = greatest_riser((4,) * 60)
        self.assertEqual(need_riser((4,) * 60, GREAT, whole), whole)
        last = whole[:59] + ((59, whole[59][1][:11] + (((4,),),)),)
        self.refused(BadProgram, {"place": (59, 11)}, need_riser, (4,) * 60, GREAT, last)

    def test_only_plain_values_come_back(self):
        pair = namedtuple("pair", "one other")
        passed = (pair(Number(0), pair((pair(Number(0), Number(1)),), ((Number(0),), (1,)))),)
        for found in (need_riser((2,), (2,), passed), riser_behind((2,), (2,), (2,), passed, passed),
                      riser_done((2,), (2,), passed, (Number(0), pair(Number(5), Number(6)))),
                      risers_apart((2,), (2,), passed, ((0, (MORE, LESS)),))):
            self.assertTrue(plain_throughout(found))
        self.assertEqual(need_riser((2,), (2,), passed), ((0, (LESS, MORE)),))


class RiserDone(Case):

    def test_all_risers_at_all_fillings(self):
        for holder in HERE:
            for goal in THERE:
                for riser in risers(holder, goal):
                    for filling in fillings(holder, 3):
                        self.assertEqual(riser_done(holder, goal, riser, filling), lead_riser(riser, filling))

    def test_to_the_letter(self):
        riser = ((1, (LESS, MORE)), (0, ()))
        self.assertEqual(riser_done((2, 3), (0, 2), riser, (0, (MOST, 5))), (1, (5, MOST)))
        self.assertEqual(riser_done((2, 3), (0, 2), riser, (1, (7, 8, 9))), (0, ()))
        middle = ((0, (((0, 1), (0, 2), (1, 2)),)),)
        self.assertEqual(riser_done((3,), (1,), middle, (0, (9, 0, 4))), (0, (4,)))

    def test_all_lots_of_four_places(self):
        for lot in lots(4):
            for row in rows(4, 4):
                expected = (0, (max(min(row[place] for place in places) for places in lot),))
                self.assertEqual(riser_done((4,), (1,), ((0, (lot,)),), (0, row)), expected)

    def test_a_filling_is_asked_for(self):
        riser = ((0, (((0,),),)), (0, (LESS,)))
        wrong = [(0, ()), (2, ()), (1, (0,)), (1, (0, MOST + 1)), (0, [0]), [0, (0,)], (0, (-1,)), (True, (0, 0))]
        for value in wrong + STRANGE + STRANGE_TUPLES:
            self.refused(BadFilling, {"value": value}, riser_done, (1, 2), (1,), riser, value)

    def test_renamings_that_never_turn_an_order_about(self):
        for holder in HERE:
            for goal in THERE:
                for riser in risers(holder, goal):
                    for filling in fillings(holder, 2):
                        for names in levels(2, 3):
                            found = riser_done(holder, goal, riser, named(filling, names))
                            self.assertEqual(found, named(riser_done(holder, goal, riser, filling), names))

    def test_others_turn_it_about(self):
        riser = ((0, (LESS, MORE)),)
        found = riser_done((2,), (2,), riser, named((0, (0, 1)), (9, 4)))
        self.assertNotEqual(found, named(riser_done((2,), (2,), riser, (0, (0, 1))), (9, 4)))

    def test_what_does_the_same_behind_such_renamings_is_exactly_one_riser(self):
        for holder, goal in [((2,), (1,)), ((2,), (2,)), ((2,), (0, 1)), ((1, 1), (1,)), ((0, 2), (0, 1)), ((1,), (3,)),
                             ((), (1,)), ((0,), (1,)), ((1,), ()), ((0, 0), (0, 0)), ((3,), (0,)), ((3,), (1,))]:
            most = max(holder, default=0)
            found = families(holder, goal, most, levels)
            told = [{(many, filling): riser_done(holder, goal, riser, filling)
                     for many in range(most + 1) for filling in fillings(holder, many)}
                    for riser in risers(holder, goal)]
            self.assertEqual(len(found), count_risers(holder, goal))
            self.assertEqual(len(told), len(found))
            for family in found:
                self.assertEqual(told.count(family), 1)


class RiserBehind(Case):

    def test_the_one_and_then_the_other(self):
        for holder, middle, goal in [((2,), (2,), (1,)), ((1, 2), (0, 2), (0, 1)), ((2,), (0, 1), (2,)), ((), (2,), (1,)),
                                     ((0, 1), (1, 0), (0, 0, 1)), ((1,), (2,), (2,)), ((2,), (1, 0), (0,)), ((3,), (2,), (1,)),
                                     ((2,), (3,), (1,)), ((0,), (0, 2), (0, 1)), ((2,), (2,), (2,))]:
            for first in risers(holder, middle)[::5]:
                for second in risers(middle, goal)[::3]:
                    both = riser_behind(holder, middle, goal, first, second)
                    self.assertEqual(need_riser(holder, goal, both), both)
                    for filling in fillings(holder, 3):
                        expected = lead_riser(second, lead_riser(first, filling))
                        self.assertEqual(lead_riser(both, filling), expected)

    def test_of_four_places(self):
        for turn in range(0, 166, 5):
            first = ((0, tuple(lots(4)[(turn * (place + 1) + place) % 166] for place in range(4))),)
            second = ((0, tuple(lots(4)[(turn + place * 31) % 166] for place in range(12))),)
            both = riser_behind((4,), (4,), (12,), first, second)
            for filling in fillings((4,), 3):
                self.assertEqual(lead_riser(both, filling), lead_riser(second, lead_riser(first, filling)))

    def test_what_changes_nothing(self):
        still = ((0, (((0,),), ((1,),))),)
        for riser in risers((2,), (2,)):
            self.assertEqual(riser_behind((2,), (2,), (2,), still, riser), riser)
            self.assertEqual(riser_behind((2,), (2,), (2,), riser, still), riser)
        sort = ((0, (LESS, MORE)),)
        self.assertEqual(riser_behind((2,), (2,), (2,), sort, sort), sort)

    def test_each_riser_is_checked_between_its_own_holders(self):
        up, down = ((0, (((0,),), ((0,),))),), ((0, (LESS,)),)
        self.assertEqual(riser_behind((1,), (2,), (1,), up, down), ITSELF)
        self.refused(BadProgram, {"place": (0,)}, riser_behind, (2,), (1,), (2,), up, down)
        self.refused(BadProgram, {"place": (0,)}, riser_behind, (1,), (1,), (2,), up, up)
        self.refused(BadProgram, {"place": (0, 0)}, riser_behind, (1,), (1,), (1,), down, down)


class CountRisers(Case):

    def test_how_many_there_are(self):
        for holder in HERE:
            for goal in THERE + [(1, 1), (0, 0), (3,)]:
                self.assertEqual(count_risers(holder, goal), len(risers(holder, goal)))

    def test_to_the_letter(self):
        self.assertEqual([count_risers((size,), (1,)) for size in range(5)], [0, 1, 4, 18, 166])
        self.assertEqual([count_risers((size,), (1,)) for size in range(5)], [len(all_lots(size)) for size in range(5)])
        self.assertEqual(count_risers((4, 3), (0, 1, 2)), (1 + 166 + 166 ** 2) * (1 + 18 + 18 ** 2))
        self.assertEqual(count_risers((0,), (0, 0, 1)), 2)

    def test_counts_of_great_holders(self):
        self.assertTrue(self.quick(count_risers, (4,) * 60, GREAT) == (60 * 166 ** 12) ** 60)
        several = (0, 1, 2, 3, 4) * 12
        expected = prod(12 * sum(many ** width for width in (0, 1, 5, 9, 12)) for many in (0, 1, 4, 18, 166)) ** 12
        self.assertTrue(self.quick(count_risers, several, (0, 1, 5, 9, 12) * 12) == expected)
        self.assertEqual(count_risers((), GREAT), 1)
        self.assertEqual(count_risers((), ()), 1)
        self.assertEqual(count_risers((0,), ()), 0)
        self.assertEqual(count_risers((4,) * 59 + (0,), GREAT), 0)


class RisersApart(Case):

    def test_by_as_few_things_as_there_can_be(self):
        for holder, goal in [((2,), (1,)), ((2,), (0, 1)), ((1, 1), (1, 0)), ((0, 2), (0, 1)), ((1,), (0, 0)), ((), (1,)),
                             ((2,), (2,)), ((3,), (1,)), ((0, 0), (0, 0)), ((1, 2), (1, 1))]:
            listed = risers(holder, goal)
            for one in listed:
                for other in listed:
                    self.check_pair(holder, goal, one, other)

    def check_pair(self, holder, goal, one, other):
        if one == other:
            self.refused(NoRow, {}, risers_apart, holder, goal, one, other)
            return
        telling = [filling for filling in fillings(holder, 2) if lead_riser(one, filling) != lead_riser(other, filling)]
        found = risers_apart(holder, goal, one, other)
        self.assertTrue(plain_throughout(found))
        self.assertEqual(len(set(found[1])), min(len(set(row)) for _, row in telling))
        self.assertLessEqual(len(set(found[1])), 2)
        self.assertNotEqual(lead_riser(one, found), lead_riser(other, found))

    def test_all_lots_of_four_places(self):
        for one in lots(4)[::3]:
            for other in lots(4)[::4]:
                if one != other:
                    found = risers_apart((4,), (2,), ((0, (one, one)),), ((0, (one, other)),))
                    self.assertNotEqual(lot_led(one, found[1]), lot_led(other, found[1]))
                    self.assertEqual(len(set(found[1])), 2)

    def test_a_later_shape_may_need_fewer(self):
        holder, goal = (2, 3, 0), (2, 0, 0)
        one = ((0, (LESS, MORE)), (1, ()), (1, ()))
        other = ((0, (MORE, LESS)), (2, ()), (2, ()))
        for few, there in ((0, other), (1, other[:2] + one[2:]), (2, other[:1] + one[1:])):
            self.assertEqual(len(set(risers_apart(holder, goal, one, there)[1])), few)
            self.assertEqual(len(set(risers_apart(holder, goal, there, one)[1])), few)

    def test_the_greatest_ones(self):
        one = greatest_riser((4,) * 60)
        lot = lots(4)[(59 * 12 + 11 + 1) % 166]
        other = one[:59] + ((59, one[59][1][:11] + (lot,)),)
        found = self.quick(risers_apart, (4,) * 60, GREAT, one, other)
        self.assertNotEqual(lead_riser(one, found), lead_riser(other, found))
        self.assertEqual((found[0], len(set(found[1]))), (59, 2))
        self.refused(NoRow, {}, risers_apart, (4,) * 60, GREAT, one, one)


def lot_led(lot, row):
    bits = sorted(set(row))
    return lot_rows(4, lot)[rows(2, 4).index(tuple(bits.index(thing) for thing in row))]


class Orders(Case):

    def test_too_great_behind_all_holders_ahead_of_all_tables(self):
        for great in ((5,), (4, 5), (12,), (0, 1, 2, 3, 12), (5,) * 60):
            for riser in (None, (), ITSELF, STRANGE[-1]):
                self.refused(TooGreat, {"most": 4}, need_riser, great, (1,), riser)
                self.refused(TooGreat, {"most": 4}, riser_done, great, (1,), riser, None)
                self.refused(TooGreat, {"most": 4}, riser_behind, great, (1,), (1,), riser, None)
                self.refused(TooGreat, {"most": 4}, riser_behind, (1,), great, (1,), riser, None)
                self.refused(TooGreat, {"most": 4}, riser_behind, (1,), great, (1,), ITSELF, ITSELF)
                self.refused(TooGreat, {"most": 4}, risers_apart, great, (1,), riser, None)
            self.refused(TooGreat, {"most": 4}, count_risers, great, (1,))
            self.refused(TooGreat, {"most": 4}, count_risers, great, ())
            # Of the goal no shape is too great.
            self.assertEqual(count_risers((), great), 1)
            self.assertEqual(riser_behind((), (), great, (), ()), ())
            self.assertEqual(need_riser((), great, ()), ())
        self.assertEqual(count_risers((4, 4), (1,)), 166 * 166)

    def test_holders_and_then_tables(self):
        great = (5,)
        for bad in STRANGE + STRANGE_INTEGERS + [(13,), (-1,), (0,) * 61, [1], (1, None)]:
            for function, rest in ((need_riser, (None,)), (riser_done, (None, None)), (count_risers, ()),
                                   (risers_apart, (None, None)), (riser_behind, ((13,), None, None))):
                self.refused(BadHolder, {"value": bad}, function, bad, 13, *rest)
                self.refused(BadHolder, {"value": bad}, function, great, bad, *rest)
            self.refused(BadHolder, {"value": bad}, riser_behind, great, great, bad, None, None)
        for bad in STRANGE + STRANGE_INTEGERS + [(), ((),) * 2]:
            self.refused(BadProgram, {"place": ()}, riser_done, (1,), (1,), bad, None)
            self.refused(BadProgram, {"place": ()}, risers_apart, (1,), (1,), bad, (None,))
            self.refused(BadProgram, {"place": ()}, risers_apart, (1,), (1,), ITSELF, bad)
            self.refused(BadProgram, {"place": ()}, riser_behind, (1,), (1,), (1,), bad, (None,))
            self.refused(BadProgram, {"place": ()}, riser_behind, (1,), (1,), (1,), ITSELF, bad)
        for function, ahead in ((risers_apart, ()), (riser_behind, ((1,),))):
            self.refused(BadProgram, {"place": (0,)}, function, (1,), (1,), *ahead, (None,), None)
            self.refused(BadProgram, {"place": (0, 0)}, function, (1,), (1,), *ahead, ((0, (None,)),), None)
            self.refused(BadProgram, {"place": (0,)}, function, (1,), (1,), *ahead, ITSELF, (None,))
            self.refused(BadProgram, {"place": (0, 0)}, function, (1,), (1,), *ahead, ITSELF, ((0, (None,)),))
        self.refused(BadProgram, {"place": (0, 0)}, riser_done, (1,), (1,), ((0, (None,)),), None)
        self.refused(BadFilling, {"value": None}, riser_done, (1,), (1,), ITSELF, None)

    def test_no_noticeable_time(self):
        first = tuple((shape, told[:4]) for shape, told in greatest_riser((4,) * 60))
        second = greatest_riser((4,) * 60, 7)
        both = self.quick(riser_behind, (4,) * 60, (4,) * 60, GREAT, first, second)
        for filling in ((7, (3, 1, 2, 0)), (59, (1, 0, 1, 0)), (31, (9, 9, 8, 7))):
            self.assertEqual(lead_riser(both, filling), lead_riser(second, lead_riser(first, filling)))
        self.assertEqual(self.quick(riser_done, (4,) * 60, GREAT, second, (59, (3, 1, 2, 0))),
                         lead_riser(second, (59, (3, 1, 2, 0))))


if __name__ == "__main__":
    unittest.main()
