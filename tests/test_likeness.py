"""[7], [42], [43] Stands that are alike for ever, least lives, and maps of lives."""

import unittest
from itertools import product

from holdfills.errors import BadIndex, NoRow, TooGreat
from holdfills.likeness import alike_stands, all_life_maps, is_life_map, least_life, stands_apart
from holdfills.lives import led_life, lives_added, need_life
from landed import GREAT
from lived import GOING, LifeCase, all_places, come_to, lives, maps_of, shown_by
from samples import MOST, Number, STRANGE, STRANGE_INTEGERS, STRANGE_TUPLES
from samples import plain_throughout, programs, rows

HOLDERS = [((0,), 3), ((1,), 3), ((0, 1), 3), ((1, 1), 3), ((2, 0), 2), ((2, 1), 2), ((1, 1, 0), 2)]
SMALL = [(holder, life) for holder, most in HOLDERS for many in range(1, most + 1) for life in lives(holder, many)]
# A row of 40 stands, of which only the last one shows another shape; the first two are told apart by 38 places.
LONG = tuple((0, (min(stand + 1, 39),) * 12) for stand in range(39)) + ((1, (39,) * 12),)
BAD_STANDS = STRANGE + STRANGE_TUPLES + STRANGE_INTEGERS + [3, 40, 60, (), (0,)]


def told_by_rows(holder, life, one, other, most):
    """Return the first row of places, shorter ones first, behind which two stands show unlike shapes, or None."""
    for places in all_places(max(holder), most):
        if shown_by(life, one, places) != shown_by(life, other, places):
            return places
    return None


def partition(holder, life):
    """Return the class numbers of the stands, by all rows of places up to as many as there are stands."""
    met, found = [], []
    for stand in range(len(life)):
        seen = [shown_by(life, stand, places) for places in all_places(max(holder), len(life))]
        if seen not in met:
            met.append(seen)
        found.append(met.index(seen))
    return tuple(found)


def stands_from(life, stand):
    """Return the stands to which one comes from a stand, itself first, as they are met."""
    found = [stand]
    for there in found:
        found += [to for at, to in enumerate(life[there][1]) if to not in found and to not in life[there][1][:at]]
    return found


class AlikeStands(LifeCase):

    def test_by_all_rows_of_places(self):
        for holder, life in SMALL + [((2, 0), GOING)]:
            self.assertEqual(alike_stands(holder, life), partition(holder, life))

    def test_to_the_letter(self):
        self.assertEqual(alike_stands((2, 0), GOING), (0, 0, 1))
        self.assertEqual(alike_stands((0, 0), ((1, ()), (0, ()), (1, ()), (0, ()))), (0, 1, 0, 1))
        self.assertEqual(alike_stands((1,), ((0, (1,)), (0, (2,)), (0, (0,)))), (0, 0, 0))
        self.assertEqual(alike_stands((0, 1), ((1, (1,)), (1, (2,)), (0, ()), (1, (2,)))), (0, 1, 2, 1))

    def test_40_stands_of_12_places(self):
        self.assertEqual(self.quick(alike_stands, (12, 12), LONG), tuple(range(40)))
        same = tuple((0, tuple((stand + place) % 40 for place in range(12))) for stand in range(40))
        self.assertEqual(self.quick(alike_stands, GREAT, same), (0,) * 40)
        unlike = tuple((stand, tuple((stand * place) % 40 for place in range(12))) for stand in range(40))
        self.assertEqual(self.quick(alike_stands, GREAT, unlike), tuple(range(40)))

    def test_the_errors(self):
        self.asks_for_a_life(lambda life: alike_stands((2, 0), life))


class StandsApart(LifeCase):

    def test_the_least_of_the_shortest_rows(self):
        for holder, life in SMALL + [((2, 0), GOING)]:
            for one, other in product(range(len(life)), repeat=2):
                places = told_by_rows(holder, life, one, other, len(life))
                if places is None:
                    self.refused(NoRow, {}, stands_apart, holder, life, one, other)
                    continue
                self.assertEqual(stands_apart(holder, life, one, other), places)
                # At most N - 2 places.
                self.assertLessEqual(len(places), max(len(life) - 2, 0))

    def test_to_the_letter(self):
        self.assertEqual(stands_apart((2, 0), GOING, 0, 2), ())
        self.refused(NoRow, {}, stands_apart, (2, 0), GOING, 0, 1)
        # Apart by (0, 1) and by (1, 0), but not by one place.
        life = ((0, (2, 3)), (0, (3, 2)), (0, (4, 5)), (0, (4, 4)), (0, (4, 4)), (1, (5, 5)))
        self.assertEqual(stands_apart((2, 2), life, 0, 1), (0, 1))
        self.assertEqual(stands_apart((2, 2), life, 1, 0), (0, 1))
        self.assertEqual(stands_apart((2, 2), life, 2, 3), (1,))
        self.assertEqual(stands_apart((2, 2), life, 5, 0), ())

    def test_the_least_of_rows_that_meet_one_pair(self):
        # By 1 and by 2 one comes to one pair, by 0 to another one that is told apart later.
        life = ((0, (2, 3, 3)), (0, (2, 4, 4)), (0, (2, 2, 2)), (0, (2, 2, 5)), (0, (2, 2, 2)), (1, (5, 5, 5)))
        self.assertEqual(stands_apart((3, 3), life, 0, 1), (1, 2))
        self.assertEqual(told_by_rows((3, 3), life, 0, 1, 4), (1, 2))

    def test_the_longest_rows(self):
        self.assertEqual(self.quick(stands_apart, (12, 12), LONG, 0, 1), (0,) * 38)
        self.assertEqual(self.quick(stands_apart, (12, 12), LONG, 37, 38), (0,))
        self.assertEqual(self.quick(stands_apart, (12, 12), LONG, 39, 0), ())
        for many in (2, 3, 4, 10):
            # The first two of so many stands.
            life = tuple((0, (stand + 1,)) for stand in range(many - 1)) + ((1, (many - 1,)),)
            self.assertEqual(stands_apart((1, 1), life, 0, 1), (0,) * (many - 2))
        same = tuple((0, tuple((stand * 7 + place) % 40 for place in range(12))) for stand in range(40))
        self.quick(self.refused, NoRow, {}, stands_apart, GREAT, same, 0, 39)

    def test_the_stands(self):
        for bad in BAD_STANDS:
            self.refused(BadIndex, {"value": bad}, stands_apart, (2, 0), GOING, bad, None)
            self.refused(BadIndex, {"value": bad}, stands_apart, (2, 0), GOING, 2, bad)
        self.refused(NoRow, {}, stands_apart, (2, 0), GOING, 2, 2)
        self.asks_for_a_life(lambda life: stands_apart((2, 0), life, None, None))


class LeastLife(LifeCase):

    def test_what_the_least_life_is(self):
        for holder, life in SMALL + [((2, 0), GOING)]:
            classes = partition(holder, life)
            for stand in range(len(life)):
                found = least_life(holder, life, stand)
                self.assertEqual(need_life(holder, found), found)
                # Alike to the told stand, without two alike ones, all come to from 0, numbered as they are met.
                both = lives_added(holder, life, found)
                for places in all_places(max(holder), 3):
                    self.assertEqual(shown_by(both, stand, places), shown_by(both, len(life), places))
                self.assertEqual(partition(holder, found), tuple(range(len(found))))
                self.assertEqual(stands_from(found, 0), list(range(len(found))))
                self.assertEqual(len(found), len(set(classes[there] for there in stands_from(life, stand))))

    def test_to_the_letter(self):
        least = ((0, (0, 1)), (1, ()))
        self.assertEqual([least_life((2, 0), GOING, stand) for stand in range(3)], [least, least, ((1, ()),)])
        self.assertEqual(least_life((2, 0), ((1, ()), (0, (2, 0)), (0, (1, 1))), 1), ((0, (1, 2)), (0, (0, 0)), (1, ())))
        self.assertEqual(least_life((2, 0), ((1, ()), (0, (0, 2)), (0, (1, 1))), 1), ((0, (1, 2)), (1, ()), (0, (0, 0))))

    def test_numbers_as_stands_are_met(self):
        life = ((0, (3, 2)), (1, (0, 0)), (2, (1, 4)), (3, (4, 2)), (4, (4, 4)))
        self.assertEqual(least_life((2,) * 5, life, 0), ((0, (1, 2)), (3, (3, 2)), (2, (4, 3)), (4, (3, 3)), (1, (0, 0))))
        self.assertEqual(least_life((2,) * 5, life, 4), ((4, (0, 0)),))

    def test_alike_exactly_if_the_least_lives_are_the_same(self):
        for holder, most in HOLDERS[1:6]:
            told = [life for many in range(1, most + 1) for life in lives(holder, many)][::5]
            for one, other in product(told, told):
                both = partition(holder, one + tuple((shape, tuple(len(one) + to for to in onward)) for shape, onward in other))
                for s, t in product(range(len(one)), range(len(other))):
                    self.assertEqual(both[s] == both[len(one) + t], least_life(holder, one, s) == least_life(holder, other, t))

    def test_alike_stands_stay_alike_where_they_are_led(self):
        for holder, life in SMALL[::7]:
            classes = alike_stands(holder, life)
            for goal in ((1,), (0, 1), (2,)):
                for program in programs(holder, goal):
                    there = alike_stands(goal, led_life(holder, goal, program, life))
                    for one, other in product(range(len(life)), repeat=2):
                        if classes[one] == classes[other]:
                            self.assertEqual(there[one], there[other])

    def test_40_stands_of_12_places(self):
        self.assertEqual(self.quick(least_life, (12, 12), LONG, 0), LONG)
        self.assertEqual(self.quick(least_life, (12, 12), LONG, 39), ((1, (0,) * 12),))
        same = tuple((0, tuple((stand * 7 + place) % 40 for place in range(12))) for stand in range(40))
        self.assertEqual(self.quick(least_life, GREAT, same, 39), ((0, (0,) * 12),))

    def test_the_stand(self):
        for bad in BAD_STANDS:
            self.refused(BadIndex, {"value": bad}, least_life, (2, 0), GOING, bad)
        self.asks_for_a_life(lambda life: least_life((2, 0), life, None))


class Maps(LifeCase):

    def test_all_maps_of_small_lives(self):
        found = 0
        for holder, most in HOLDERS:
            told = [life for many in range(1, most + 1) for life in lives(holder, many)]
            for one, other in product(told[::3], told[::4]):
                maps = maps_of(one, other)
                self.assertEqual(all_life_maps(holder, one, other), tuple(maps))
                for row in rows(len(other), len(one)):
                    self.assertIs(is_life_map(holder, one, other, row), row in maps)
                found += len(maps)
        self.assertGreater(found, 500)

    def test_to_the_letter(self):
        least = ((0, (0, 1)), (1, ()))
        self.assertEqual(all_life_maps((2, 0), GOING, least), ((0, 0, 1),))
        self.assertEqual(all_life_maps((2, 0), least, GOING), ())
        self.assertEqual(all_life_maps((1,), ((0, (0,)),), ((0, (0,)), (0, (0,)), (0, (2,)))), ((0,), (2,)))
        self.assertEqual(all_life_maps((0,), ((0, ()),) * 2, ((0, ()),) * 2), ((0, 0), (0, 1), (1, 0), (1, 1)))

    def test_a_stand_and_that_to_which_a_map_leads_it_are_alike(self):
        for holder, most in HOLDERS[1:]:
            told = [life for many in range(1, most + 1) for life in lives(holder, many)][::4]
            for one, other in product(told, told):
                for row in all_life_maps(holder, one, other):
                    for stand in range(len(one)):
                        self.assertEqual(least_life(holder, one, stand), least_life(holder, other, row[stand]))
                if stands_from(one, 0) == list(range(len(one))):
                    # At most one map for each stand to which it leads 0.
                    starts = [row[0] for row in all_life_maps(holder, one, other)]
                    self.assertEqual(len(set(starts)), len(starts))

    def test_just_one_map_to_the_least_life(self):
        for holder, life in SMALL[::2]:
            for stand in range(len(life)):
                order = stands_from(life, stand)
                part = tuple((life[there][0], tuple(order.index(to) for to in life[there][1])) for there in order)
                self.assertEqual(len(all_life_maps(holder, part, least_life(holder, life, stand))), 1)

    def test_400_and_more_to_try(self):
        one, still_there = ((0, (0,)),), tuple((0, (stand,)) for stand in range(20))
        self.assertEqual(len(self.quick(all_life_maps, (1,), still_there[:2], still_there)), 400)
        self.assertEqual(len(self.quick(all_life_maps, (1,), one, still_there)), 20)
        self.assertEqual(self.quick(all_life_maps, (1,), still_there, one), ((0,) * 20,))
        forty = tuple((0, (stand,)) for stand in range(40))
        self.assertEqual(len(self.quick(all_life_maps, (1,), one, forty)), 40)
        self.assertEqual(self.quick(all_life_maps, (1,), forty, one), ((0,) * 40,))
        self.refused(TooGreat, {"most": 400}, all_life_maps, (1,), forty[:2], forty[:21])
        self.refused(TooGreat, {"most": 400}, all_life_maps, (1,), forty[:9], forty[:2])
        self.assertEqual(len(all_life_maps((1,), forty[:8], forty[:2])), 256)
        self.quick(self.refused, TooGreat, {"most": 400}, all_life_maps, (1,), forty, forty)
        # Where there is no map, so many would still have to be tried.
        self.refused(TooGreat, {"most": 400}, all_life_maps, (1, 1), forty[:9], ((1, (0,)),) * 2)

    def test_values_of_any_kind(self):
        least = ((0, (0, 1)), (1, ()))
        self.assertIs(is_life_map((2, 0), GOING, least, (0, 0, 1)), True)
        for value in STRANGE + STRANGE_TUPLES + STRANGE_INTEGERS + [(), (0, 0), (0, 0, 1, 1), [0, 0, 1], (0, 0, 2), (0, 0, -1), (0, 1, 1),
                                                                    (1, 0, 1), (0, 0, 0), (0, 0, MOST), {0: 0, 1: 0, 2: 1}]:
            self.assertIs(is_life_map((2, 0), GOING, least, value), False)
        for value in STRANGE + STRANGE_INTEGERS:
            for wrong in ((value, 0, 1), (0, value, 1), (0, 0, value)):
                self.assertIs(is_life_map((2, 0), GOING, least, wrong), False)
        self.assertIs(self.quick(is_life_map, (1, 1), tuple((0, (stand,)) for stand in range(40)), ((0, (0,)),), (0,) * 40), True)

    def test_the_lives(self):
        for function in (lambda one, other: is_life_map((2, 0), one, other, None), lambda one, other: all_life_maps((2, 0), one, other)):
            self.asks_for_a_life(lambda life: function(life, None))
            self.asks_for_a_life(lambda life: function(((1, ()),) * 40, life))

    def test_only_plain_values_come_back(self):
        def numbers(value):
            return tuple(map(numbers, value)) if isinstance(value, tuple) else Number(value)
        holder, life = numbers((2, 0)), numbers(GOING)
        for found in (alike_stands(holder, life), stands_apart(holder, life, Number(0), Number(2)), least_life(holder, life, Number(0)),
                      all_life_maps(holder, life, life)):
            self.assertTrue(plain_throughout(found))
        self.assertIs(is_life_map(holder, life, life, numbers((0, 1, 2))), True)

    def test_come_to_again(self):
        # By a map one comes, by each row of places, to that to which the map leads where one came.
        least = ((0, (0, 1)), (1, ()))
        for stand in range(3):
            for places in all_places(2, 3):
                there = come_to(GOING, stand, places)
                self.assertEqual(come_to(least, (0, 0, 1)[stand], places), None if there is None else (0, 0, 1)[there])


if __name__ == "__main__":
    unittest.main()
