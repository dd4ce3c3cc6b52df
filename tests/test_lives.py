"""[5], [7], [21], [40], [41] Lives: showing a shape, and going on as one of its places is chosen."""

import unittest
from itertools import product

import spelled
from holdfills.deeds import beside
from holdfills.errors import BadHolder, BadIndex, BadLife, BadParameter, BadProgram, NoRow, TooGreat
from holdfills.inside import both_into, put_into
from holdfills.lives import led_life, lives_added, lives_beside, need_life, shown, two_steps
from holdfills.programs import one_behind, still
from landed import GREAT, NO_HOLDER
from lived import GOING, LifeCase, all_places, come_to, lives, shown_by
from samples import MOST, Number, STRANGE, STRANGE_INTEGERS, STRANGE_TUPLES
from samples import plain_throughout, programs

FEW = [(0,), (1,), (2,), (0, 1), (2, 0), (1, 1), (2, 1)]
SMALL = [(holder, life) for holder in FEW for many in (1, 2) for life in lives(holder, many)]
NO_PROGRAM = STRANGE + STRANGE_INTEGERS + [(), [(0, (0,))], {0: (0, (0,))}]
# 40 stands, from each of which one goes on to the next one by the place 0, and to the one after that by the last one.
ROUND = tuple((stand, tuple((stand + 1 + place // 11) % 40 for place in range(12))) for stand in range(40))


class NeedLife(LifeCase):

    def test_lives_are_returned(self):
        for holder, life in SMALL:
            self.assertEqual(need_life(holder, life), life)
        self.assertEqual(need_life((2, 0), GOING), GOING)
        self.assertEqual(need_life((0,), ((0, ()),)), ((0, ()),))
        self.assertEqual(self.quick(need_life, GREAT, ROUND), ROUND)

    def test_40_stands_and_41(self):
        for many in (1, 40):
            self.assertEqual(need_life((0,), ((0, ()),) * many), ((0, ()),) * many)
        for many in (0, 41, 60):
            self.refused(BadLife, {"place": ()}, need_life, (0,), ((0, ()),) * many)
        self.quick(self.refused, BadLife, {"place": ()}, need_life, (0,), ((0, ()),) * 10 ** 6)

    def test_each_rule_of_the_form(self):
        self.asks_for_a_life(lambda life: need_life((2, 0), life))
        for bad in STRANGE + STRANGE_TUPLES + [((0, ()),), ()]:
            self.refused(BadLife, {"place": (0,)} if isinstance(bad, tuple) and bad else {"place": ()}, need_life, (), bad)

    def test_the_holder_first(self):
        for bad in NO_HOLDER:
            self.refused(BadHolder, {"value": bad}, need_life, bad, None)
            self.refused(BadHolder, {"value": bad}, shown, bad, None, None, None)
            self.refused(BadHolder, {"value": bad}, led_life, bad, 13, None, None)
            self.refused(BadHolder, {"value": bad}, led_life, (1,), bad, None, None)
            self.refused(BadHolder, {"value": bad}, lives_beside, bad, 13, None, None)
            self.refused(BadHolder, {"value": bad}, lives_beside, GREAT, bad, None, None)
            self.refused(BadHolder, {"value": bad}, lives_added, bad, None, None)
            self.refused(BadHolder, {"value": bad}, two_steps, bad, None)

    def test_only_plain_values_come_back(self):
        def numbers(value):
            return tuple(map(numbers, value)) if isinstance(value, tuple) else Number(value)
        holder, life = numbers((2, 0)), numbers(GOING)
        for found in (need_life(holder, life), shown(holder, life, Number(0), numbers((0, 1))), led_life(holder, holder, numbers(still((2, 0))), life),
                      lives_beside(holder, holder, life, life), lives_added(holder, life, life), two_steps(holder, life)):
            self.assertTrue(plain_throughout(found))


class Shown(LifeCase):

    def test_all_short_rows_of_places(self):
        for holder, life in SMALL + [((2, 0), GOING)]:
            for stand in range(len(life)):
                for places in all_places(3, 3):
                    expected = shown_by(life, stand, places)
                    if expected is None:
                        self.refused(NoRow, {}, shown, holder, life, stand, places)
                    else:
                        self.assertEqual(shown(holder, life, stand, places), expected)

    def test_to_the_letter(self):
        self.assertEqual([shown((2, 0), GOING, 0, places) for places in ((), (0,), (0, 0), (1,), (0, 1))], [0, 0, 0, 1, 1])
        self.refused(NoRow, {}, shown, (2, 0), GOING, 2, (0,))
        self.refused(NoRow, {}, shown, (2, 0), GOING, 0, (1, 0))
        self.refused(NoRow, {}, shown, (2, 0), GOING, 0, (2,))
        self.refused(NoRow, {}, shown, (2, 0), GOING, 0, (11, 0))

    def test_400_places_and_401(self):
        self.assertEqual(self.quick(shown, GREAT, ROUND, 0, (0,) * 400), 0)
        self.assertEqual(self.quick(shown, GREAT, ROUND, 0, (0,) * 399), 39)
        self.assertEqual(self.quick(shown, GREAT, ROUND, 7, (11,) * 400), 7)
        self.assertEqual(shown((2, 0), GOING, 1, (0,) * 400), 0)
        self.assertEqual(shown((2, 0), GOING, 1, ()), 0)
        longer = (0,) * 401
        self.refused(BadParameter, {"value": longer}, shown, (2, 0), GOING, 0, longer)
        # A place that is not there is met far on; one that no shape has is none at all.
        self.refused(NoRow, {}, shown, (2, 0), GOING, 0, (0,) * 398 + (1, 0))
        wrong = (1, 0) + (0,) * 397 + (12,)
        self.refused(BadParameter, {"value": wrong}, shown, (2, 0), GOING, 0, wrong)

    def test_places_from_0_to_11(self):
        self.assertEqual(shown(GREAT, ROUND, 0, (11, 11)), 4)
        for bad in STRANGE + STRANGE_INTEGERS + [(12,), (-1,), (0, 12), (True,), (False,), (0.0,), (None,), ("0",), ((0,),), [0], (0, MOST)]:
            self.refused(BadParameter, {"value": bad}, shown, (2, 0), GOING, 0, bad)
        for value in STRANGE + STRANGE_INTEGERS:
            bad = (0, value)
            self.refused(BadParameter, {"value": bad}, shown, (2, 0), GOING, 0, bad)

    def test_the_stand(self):
        for bad in STRANGE + STRANGE_TUPLES + STRANGE_INTEGERS + [3, 40, 60, (), (0,)]:
            self.refused(BadIndex, {"value": bad}, shown, (2, 0), GOING, bad, None)
        self.assertEqual(shown((2, 0), GOING, 2, ()), 1)
        self.assertEqual(shown(GREAT, ROUND, 39, ()), 39)
        self.refused(BadIndex, {"value": 40}, shown, GREAT, ROUND, 40, ())

    def test_the_life(self):
        self.asks_for_a_life(lambda life: shown((2, 0), life, None, None))


class Led(LifeCase):

    def test_stands_are_led(self):
        for holder, life in SMALL[::3] + [((2, 0), GOING)]:
            for goal in [(0,), (1,), (2,), (0, 1), (1, 2)]:
                for program in programs(holder, goal):
                    told = tuple((program[shape][0], tuple(onward[place] for place in program[shape][1])) for shape, onward in life)
                    self.assertEqual(led_life(holder, goal, program, life), told)
                    self.assertEqual(need_life(goal, told), told)

    def test_to_the_letter(self):
        self.assertEqual(led_life((2, 0), (0, 3), ((1, (1, 0, 0)), (0, ())), GOING), ((1, (2, 1, 1)), (1, (2, 0, 0)), (0, ())))

    def test_led_by_one_and_then_by_another_one(self):
        few = [(1,), (2,), (0, 1)]
        for holder, middle, goal in product(few, repeat=3):
            for life in lives(holder, 2)[::3]:
                for first, second in product(programs(holder, middle), programs(middle, goal)):
                    twice = led_life(middle, goal, second, led_life(holder, middle, first, life))
                    self.assertEqual(twice, led_life(holder, goal, one_behind(holder, middle, goal, first, second), life))

    def test_the_errors_in_their_order(self):
        for bad in NO_PROGRAM:
            self.refused(BadProgram, {"place": ()}, led_life, (2, 0), (2, 0), bad, None)
        for bad in STRANGE + STRANGE_TUPLES + [(0, (0, 2)), (2, ()), (0, (0,))]:
            self.refused(BadProgram, {"place": (0,)}, led_life, (2, 0), (2, 0), (bad, None), None)
        self.asks_for_a_life(lambda life: led_life((2, 0), (2, 0), still((2, 0)), life))

    def test_at_the_bounds(self):
        self.assertEqual(self.quick(led_life, GREAT, GREAT, still(GREAT), ROUND), ROUND)


class Beside(LifeCase):

    def test_both_lives_at_once(self):
        told = [(holder, life) for holder, life in SMALL if len(life) == 2 or holder in ((2,), (1, 1))][::4]
        for (holder, one), (goal, other) in product(told, told):
            spell = spelled.beside(holder, goal)
            pairs = list(product(range(len(one)), range(len(other))))
            stands = []
            for s, t in pairs:
                (i, onward), (j, more) = one[s], other[t]
                number = spelled.number_of(spell, (i, j))
                stands.append((number, tuple(pairs.index((onward[p], more[q])) for p, q in spell[number][1])))
            found = lives_beside(holder, goal, one, other)
            self.assertEqual(found, tuple(stands))
            self.assertEqual(need_life(beside(holder, goal), found), found)

    def test_to_the_letter(self):
        self.assertEqual(lives_beside((2, 0), (1,), GOING, ((0, (1,)), (0, (0,)))),
                         ((0, (3, 5)), (0, (2, 4)), (0, (1, 5)), (0, (0, 4)), (1, ()), (1, ())))

    def test_the_bounds_in_their_order(self):
        one, many = ((0, ()),), ((0, ()),) * 7
        self.assertEqual(len(self.quick(lives_beside, (0,), (0,), ((0, ()),) * 5, ((0, ()),) * 8)), 40)
        self.assertEqual(len(self.quick(lives_beside, (0,) * 6, (12,) * 10, ((5, ()),) * 4, ((9, (0,) * 12),) * 10)), 40)
        self.refused(TooGreat, {"most": 40}, lives_beside, (0,), (0,), many, ((0, ()),) * 6)
        self.refused(TooGreat, {"most": 40}, lives_beside, (0,), (0,), ((0, ()),) * 40, ((0, ()),) * 2)
        self.refused(TooGreat, {"most": 60}, lives_beside, (0,) * 31, (0, 0), one, one)
        self.refused(TooGreat, {"most": 12}, lives_beside, (0, 7), (0, 2), one, one)
        # 60 ahead of 12, both ahead of 40; and all of them behind the lives.
        self.refused(TooGreat, {"most": 60}, lives_beside, (0,) + (12,) * 30, (0, 12), many, many)
        self.refused(TooGreat, {"most": 12}, lives_beside, (0, 7), (0, 2), many, many)
        self.quick(self.refused, TooGreat, {"most": 60}, lives_beside, GREAT, GREAT, ROUND, ROUND)
        self.refused(BadLife, {"place": ()}, lives_beside, GREAT, GREAT, ROUND, None)
        self.refused(BadLife, {"place": ()}, lives_beside, GREAT, GREAT, None, ROUND)
        self.refused(BadLife, {"place": (0,)}, lives_beside, (0,) * 31, (0, 0), one, ((2, ()),))

    def test_the_lives(self):
        self.asks_for_a_life(lambda life: lives_beside((2, 0), (1,), life, None))
        self.asks_for_a_life(lambda life: lives_beside((1,), (2, 0), ((0, (0,)),), life))


class Added(LifeCase):

    def test_stands_of_both(self):
        for holder in FEW:
            told = [life for many in (1, 2) for life in lives(holder, many)][::3]
            for one, other in product(told, told):
                found = lives_added(holder, one, other)
                self.assertEqual(found[:len(one)], one)
                self.assertEqual(need_life(holder, found), found)
                for stand in range(len(other)):
                    for places in all_places(2, 3):
                        self.assertEqual(shown_by(found, len(one) + stand, places), shown_by(other, stand, places))
                        there = come_to(other, stand, places)
                        self.assertEqual(come_to(found, len(one) + stand, places), None if there is None else len(one) + there)

    def test_to_the_letter(self):
        self.assertEqual(lives_added((2, 0), GOING, GOING[:0] + ((0, (0, 0)),)), GOING + ((0, (3, 3)),))

    def test_40_stands_and_41(self):
        for few in (1, 20, 39):
            one, other = ((0, (0,)),) * few, ((0, (0,)),) * (40 - few)
            self.assertEqual(lives_added((1,), one, other), one + ((0, (few,)),) * (40 - few))
            self.refused(TooGreat, {"most": 40}, lives_added, (1,), one, other + other[:1])
        self.quick(self.refused, TooGreat, {"most": 40}, lives_added, GREAT, ROUND, ROUND)

    def test_the_lives(self):
        self.asks_for_a_life(lambda life: lives_added((2, 0), life, None))
        self.asks_for_a_life(lambda life: lives_added((2, 0), ((1, ()),) * 40, life))


class TwoSteps(LifeCase):

    def test_two_steps_at_once(self):
        for holder, life in SMALL + [((2, 0), GOING), ((3,), ((0, (1, 0, 1)), (0, (0, 0, 1))))]:
            whole = spelled.put_into(holder, holder)
            stands = []
            for shape, onward in life:
                number = spelled.number_of(whole, (shape, tuple(life[to][0] for to in onward)))
                stands.append((number, tuple(life[onward[p]][1][q] for p, q in whole[number][1])))
            found = two_steps(holder, life)
            self.assertEqual(found, tuple(stands))
            self.assertEqual(need_life(put_into(holder, holder), found), found)

    def test_to_the_letter(self):
        # (2, 0) put into itself: the shape 0 with (0, 0), (0, 1), (1, 0), (1, 1), then the shape 1.
        self.assertEqual(two_steps((2, 0), GOING), ((1, (0, 2)), (1, (1, 2)), (4, ())))

    def test_led_and_then_in_two_steps(self):
        few = [(1,), (2,), (0, 1), (1, 1)]
        for holder, goal in product(few, repeat=2):
            for life in lives(holder, 2)[::2]:
                for program in programs(holder, goal):
                    ahead = two_steps(goal, led_life(holder, goal, program, life))
                    both = both_into((holder, goal, holder, goal), program, program)
                    self.assertEqual(ahead, led_life(put_into(holder, holder), put_into(goal, goal), both, two_steps(holder, life)))

    def test_the_bounds(self):
        self.assertEqual(len(self.quick(two_steps, (1,) * 7, tuple((at % 7, ((at + 1) % 40,)) for at in range(40)))), 40)
        self.assertEqual(two_steps((3,), ((0, (0, 0, 0)),)), ((0, (0,) * 9),))
        for holder, most in (((1,) * 8, 60), ((4,), 12), ((2, 2, 2, 2), 60), ((12,), 12), (GREAT, 60)):
            life = ((0, (0,) * holder[0]),)
            self.quick(self.refused, TooGreat, {"most": most}, two_steps, holder, life)
            self.refused(BadLife, {"place": ()}, two_steps, holder, None)
            self.refused(BadLife, {"place": (0,)}, two_steps, holder, (None,))

    def test_the_life(self):
        self.asks_for_a_life(lambda life: two_steps((2, 0), life))


if __name__ == "__main__":
    unittest.main()
