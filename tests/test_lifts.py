"""[7], [44], [45] Lives that keep a standing, free lives, and the maps from them."""

import unittest
from itertools import product

from holdfills.errors import BadIndex, BadLife, BadParameter, NoRow, TooGreat
from holdfills.inside import put_into
from holdfills.lifts import all_kept, broken_life, free_life, is_kept, map_by
from holdfills.likeness import all_life_maps, is_life_map
from holdfills.lives import led_life, need_life, two_steps
from holdfills.lands import land_added
from holdfills.standings import look_all, look_here
from holdfills.worlds import world_of
from landed import BACK, END, ONWARD, TWO_ROOMS
from landed import apart_land, blocks_land, lands, turning_land
from lived import LifeCase, first_unkept_life, lives, maps_of
from samples import MOST, Number, STRANGE, STRANGE_INTEGERS, STRANGE_TUPLES, plain_throughout

EMPTY = ((), ())
TWO = ((2, 1), TWO_ROOMS)
TURN = turning_land(2)
SMALL = lands((1,), (2,), (1, 1), (2, 1), (1, 2))
# Over the land of two rooms, of which one sees the other: one stand that leads to another one.
LED = ((0, (0, 1)), (1, (1,)))
NO_STANDS = STRANGE + STRANGE_INTEGERS + [0, 41, 60, (), (1,)]


def kept(land, stands):
    """Return all lives of so many stands that keep the standing, found apart from the program."""
    return [life for life in lives(land[0], stands) if first_unkept_life(land, life) is None]


class Broken(LifeCase):

    def check(self, land, life):
        """Check what is told of a life, and return the first rule that it breaks."""
        broken = first_unkept_life(land, life)
        self.assertIs(is_kept(land, life), broken is None)
        if broken is None:
            self.refused(NoRow, {}, broken_life, land, life)
        else:
            self.assertEqual(broken_life(land, life), broken)
        return broken

    def test_all_small_lives(self):
        met = set()
        for land in SMALL:
            for stands in (1, 2):
                for life in lives(land[0], stands):
                    broken = self.check(land, life)
                    met.add(broken and broken[0])
        for life in lives((2,), 3)[::5]:
            self.check(TURN, life)
        self.assertEqual(met, {None, 0, 1, 2})

    def test_each_rule_alone_with_the_least_numbers(self):
        self.assertIsNone(self.check(TURN, ((0, (0, 1)), (0, (1, 0)))))
        self.assertEqual(self.check(TURN, ((0, (0, 1)), (0, (0, 1)))), (0, 1))
        self.assertEqual(self.check(TURN, ((0, (1, 1)), (0, (0, 1)))), (0, 0))
        self.assertEqual(self.check(TURN, ((0, (0, 1)), (0, (1, 2)), (0, (2, 0)))), (2, 0, 1, 1))
        self.assertEqual(self.check(TURN, ((0, (0, 0)), (0, (1, 0)))), (2, 1, 1, 1))
        self.assertIsNone(self.check(TWO, LED))
        self.assertEqual(self.check(TWO, ((0, (0, 0)), (1, (1,)))), (1, 0, 1))
        self.assertEqual(self.check(TWO, ((0, (0, 1)), (1, (0,)))), (0, 1))
        self.assertEqual(self.check(TWO, LED + ((0, (2, 0)),)), (1, 2, 1))
        self.assertIsNone(self.check(TWO, LED + ((0, (2, 1)),)))
        # The lesser rule at a later stand comes first.
        both = land_added(TURN, TWO)
        bad = ((0, (0, 1)), (0, (1, 2)), (0, (2, 0)))
        self.assertEqual(self.check(both, bad + ((1, (3, 4)), (2, (4,)))), (2, 0, 1, 1))
        self.assertEqual(self.check(both, bad + ((1, (3, 3)), (2, (4,)))), (1, 3, 1))
        self.assertEqual(self.check(both, bad + ((1, (4, 3)), (2, (4,)))), (0, 3))
        # Of two places, and of two stands, the least ones first.
        three = turning_land(3)
        self.assertEqual(self.check(three, ((0, (0, 1, 1)), (0, (1, 0, 0)))), (2, 0, 1, 1))
        self.assertEqual(self.check(three, ((0, (0, 0, 1)), (0, (1, 1, 0)))), (2, 0, 1, 1))
        self.assertEqual(self.check(three, ((0, (0, 1, 2)), (0, (1, 2, 0)), (0, (2, 1, 0)))), (2, 0, 2, 1))
        self.assertIsNone(self.check(three, ((0, (0, 1, 2)), (0, (1, 2, 0)), (0, (2, 0, 1)))))

    def test_the_facts_of_keeping(self):
        # By two steps, and by what the looks lead to.
        for land in [land for land in SMALL if max(put_into(land[0], land[0])) <= 12]:
            holder = land[0]
            for stands in (1, 2):
                for life in lives(holder, stands):
                    seen = led_life(holder, put_into(holder, holder), look_all(land), life)
                    here = led_life(holder, (1,), look_here(land), life)
                    stays = all(onward == (stand,) for stand, (_, onward) in enumerate(here))
                    self.assertEqual(is_kept(land, life), seen == two_steps(holder, life) and stays)

    def test_sets_of_stands_over_rooms(self):
        for land in SMALL:
            _, arrows, ends, joins = world_of(land)
            numbers = {(s, p): sum(land[0][:s]) + p for s, size in enumerate(land[0]) for p in range(size)}
            for life in lives(land[0], 2):
                go = {(stand, numbers[(shape, p)]): to for stand, (shape, onward) in enumerate(life) for p, to in enumerate(onward)}
                along = all(life[to][0] == arrows[arrow][1] for (_, arrow), to in go.items())
                whole = along and all(go[(stand, ends[shape])] == stand for stand, (shape, _) in enumerate(life))
                whole = whole and all(
                    go[(go[(stand, arrow)], onward)] == go[(stand, joins[arrow][at])] for stand, arrow in go
                    for at, onward in enumerate([g for g, (start, _) in enumerate(arrows) if start == arrows[arrow][1]]))
                self.assertEqual(is_kept(land, life), whole)

    def test_values_of_any_kind(self):
        wrong = [(), list(LED), LED[::-1], dict(enumerate(LED)), (LED[0],), LED + (None,), ((0, (0, 1)), (1, ())), ((0, (0, 2)), (1, (1,))),
                 ((0, [0, 1]), (1, (1,))), ([0, (0, 1)], (1, (1,))), ((1, (0,)),) * 41, ((0, (0, MOST)), (1, (1,))), "ab"]
        self.assertIs(is_kept(TWO, LED), True)
        for value in STRANGE + STRANGE_TUPLES + STRANGE_INTEGERS + wrong:
            self.assertIs(is_kept(TWO, value), False)
        for value in STRANGE + STRANGE_INTEGERS:
            for bad in ((value, LED[1]), (LED[0], value), ((value, (0, 1)), LED[1]), ((0, value), LED[1]), ((0, (0, value)), LED[1])):
                self.assertIs(is_kept(TWO, bad), False)
        for value in STRANGE + STRANGE_TUPLES + [(), EMPTY]:
            self.assertIs(is_kept(EMPTY, value), False)

    def test_the_errors_in_their_order(self):
        self.asks_for_a_land(lambda land: broken_life(land, None))
        self.asks_for_a_land(lambda land: is_kept(land, None))
        two = ((2, 1), TWO_ROOMS)
        for bad in STRANGE + STRANGE_INTEGERS + [(), ((1, (0,)),) * 41, list(LED)]:
            self.refused(BadLife, {"place": ()}, broken_life, two, bad)
            self.refused(BadLife, {"place": ()}, broken_life, EMPTY, bad)
        for bad in STRANGE + STRANGE_TUPLES + [(0, (0,)), (2, ()), (0, (0, 2)), (1, ())]:
            self.refused(BadLife, {"place": (1,)}, broken_life, two, (LED[0], bad))
            # What has not the form comes ahead of the rules.
            self.refused(BadLife, {"place": (1,)}, broken_life, two, ((0, (1, 0)), bad))

    def test_at_the_bounds(self):
        for land in (apart_land(60, 12), blocks_land(60, 12)):
            if land == apart_land(60, 12):
                # 36 stands, in three rooms, that turn about by 12.
                life = tuple((stand // 12, tuple(stand // 12 * 12 + (stand + place) % 12 for place in range(12))) for stand in range(36))
            else:
                # One stand over each room of three blocks of 12.
                life = tuple((stand, tuple(range(stand // 12 * 12, stand // 12 * 12 + 12))) for stand in range(36))
            self.assertIs(self.quick(is_kept, land, life), True)
            last = (life[35][0], life[35][1][:11] + (life[35][1][10],))
            self.assertEqual(self.quick(broken_life, land, life[:35] + (last,)), first_unkept_life(land, life[:35] + (last,)))


class AllKept(LifeCase):

    def test_all_of_small_lands(self):
        for land in SMALL:
            for stands in (1, 2, 3):
                if sum(stands ** (size - 1) for size in land[0]) ** stands <= 200:
                    self.assertEqual(list(all_kept(land, stands)), kept(land, stands))
        self.assertEqual(list(all_kept(turning_land(3), 2)), kept(turning_land(3), 2))
        self.assertEqual(list(all_kept(TURN, 4)), [life for life in product(*[
            [(0, (stand, to)) for to in range(4)] for stand in range(4)]) if first_unkept_life(TURN, life) is None])

    def test_to_the_letter(self):
        self.assertEqual(all_kept(TURN, 2), (((0, (0, 0)), (0, (1, 1))), ((0, (0, 1)), (0, (1, 0)))))
        self.assertEqual(all_kept(TWO, 1), (((1, (0,)),),))
        self.assertEqual(all_kept(TWO, 2), (LED, ((1, (0,)), (0, (1, 0))), ((1, (0,)), (1, (1,)))))
        self.assertEqual([all_kept(EMPTY, stands) for stands in (1, 2, 40)], [()] * 3)
        self.assertEqual(all_kept(END, 40), (tuple((0, (stand,)) for stand in range(40)),))
        # Ways to go back and forth between so many stands, staying or not.
        self.assertEqual([len(all_kept(TURN, stands)) for stands in (1, 2, 3, 4, 5)], [1, 2, 4, 10, 26])
        self.assertEqual([len(all_kept(((2,), ONWARD), stands)) for stands in (1, 2, 3, 4, 5)], [1, 3, 10, 41, 196])

    def test_5000_to_try_and_more(self):
        # 5 with the exponent 5 is 3125; 2 with 12 is 4096, 17 with 3 is 4913, 64 and 70 with 2 are 4096 and 4900.
        for land, stands, count in ((TURN, 5, 26), (apart_land(2, 1), 12, 4096), (apart_land(17, 1), 3, 4913), (turning_land(7), 2, 1),
                                    (apart_land(60, 1), 2, 3600), (apart_land(60, 12), 1, 60), (blocks_land(60, 12), 1, 0),
                                    (land_added(turning_land(7), land_added(turning_land(3), TURN)), 2, 10), (END, 40, 1)):
            found = self.quick(all_kept, land, stands)
            self.assertEqual(sorted(set(found)), list(found))
            for life in found[::97] + found[-1:]:
                self.assertIsNone(first_unkept_life(land, life))
            self.assertEqual(len(found), count)
        # 71 with 2 is 5041, 18 with 3 is 5832, 2 with 13 is 8192, 6 with 6 is far more.
        sixteen = land_added(turning_land(7), apart_land(7, 1))
        for land, stands in ((sixteen, 2), (apart_land(18, 1), 3), (apart_land(2, 1), 13), (TURN, 6), (apart_land(60, 12), 40), (TURN, 40),
                             (blocks_land(60, 12), 2), (turning_land(12), 2), (turning_land(3), 4)):
            self.quick(self.refused, TooGreat, {"most": 5000}, all_kept, land, stands)
        self.assertEqual(len(all_kept(land_added(turning_land(7), apart_land(6, 1)), 2)), 1 + 2 * 6 + 36)

    def test_the_errors_in_their_order(self):
        self.asks_for_a_land(lambda land: all_kept(land, None))
        for bad in NO_STANDS:
            self.refused(BadParameter, {"value": bad}, all_kept, TURN, bad)
            self.refused(BadParameter, {"value": bad}, all_kept, apart_land(60, 1), bad)
            self.refused(BadParameter, {"value": bad}, all_kept, EMPTY, bad)


class Free(LifeCase):

    def test_places_as_stands(self):
        for land in SMALL + lands((3,), (2, 2))[::5] + [turning_land(12), blocks_land(12, 12)]:
            for shape in range(len(land[0])):
                seen = land[1][shape][1]
                found = free_life(land, shape)
                self.assertEqual(found, tuple((seen[p][0], tuple(seen[p][1][q] for q in range(land[0][seen[p][0]]))) for p in range(land[0][shape])))
                self.assertEqual(need_life(land[0], found), found)
                self.assertIs(is_kept(land, found), True)
                self.assertIsNone(first_unkept_life(land, found))

    def test_to_the_letter(self):
        self.assertEqual(free_life(TWO, 0), LED)
        self.assertEqual(free_life(TWO, 1), ((1, (0,)),))
        self.assertEqual(free_life(((2,), BACK), 0), ((0, (0, 1)), (0, (1, 0))))
        self.assertEqual(free_life(apart_land(60, 12), 59)[11], (59, (11,) + tuple(range(11))))

    def test_just_one_map_for_each_stand_that_shows_the_shape(self):
        tried = 0
        for land in SMALL:
            for stands in (1, 2, 3):
                if sum(stands ** (size - 1) for size in land[0]) ** stands > 200:
                    continue
                for life in kept(land, stands):
                    for shape, (here, _) in enumerate(land[1]):
                        free = free_life(land, shape)
                        maps = maps_of(free, life)
                        showing = [stand for stand in range(stands) if life[stand][0] == shape]
                        self.assertEqual(sorted(row[here] for row in maps), showing)
                        for stand in range(stands):
                            if stand not in showing:
                                self.refused(NoRow, {}, map_by, land, shape, life, stand)
                                continue
                            found = map_by(land, shape, life, stand)
                            self.assertIn(found, maps)
                            self.assertEqual(found[here], stand)
                            self.assertIs(is_life_map(land[0], free, life, found), True)
                            tried += 1
                        self.assertEqual(all_life_maps(land[0], free, life), tuple(maps))
        self.assertGreater(tried, 100)

    def test_maps_to_the_letter(self):
        self.assertEqual(map_by(TWO, 0, LED, 0), (0, 1))
        self.assertEqual(map_by(TWO, 1, LED, 1), (1,))
        self.refused(NoRow, {}, map_by, TWO, 1, LED, 0)
        self.assertEqual(map_by(TURN, 0, ((0, (0, 2)), (0, (1, 1)), (0, (2, 0))), 2), (2, 0))

    def test_the_errors_in_their_order(self):
        self.asks_for_a_land(lambda land: free_life(land, None))
        self.asks_for_a_land(lambda land: map_by(land, None, None, None))
        for bad in STRANGE + STRANGE_TUPLES + STRANGE_INTEGERS + [2, 60, ()]:
            self.refused(BadIndex, {"value": bad}, free_life, TWO, bad)
            self.refused(BadIndex, {"value": bad}, map_by, TWO, bad, None, None)
            self.refused(BadIndex, {"value": bad}, map_by, TWO, 0, LED, bad)
        self.refused(BadIndex, {"value": 0}, free_life, EMPTY, 0)
        for bad in STRANGE + STRANGE_INTEGERS + [(), ((1, (0,)),) * 41, list(LED)]:
            self.refused(BadLife, {"place": ()}, map_by, TWO, 0, bad, None)
        for bad in STRANGE + STRANGE_TUPLES + [(0, (0,)), (2, ()), (0, (0, 2)), (1, ())]:
            self.refused(BadLife, {"place": (1,)}, map_by, TWO, 0, (LED[0], bad), None)
        for life, place in ((((0, (0, 0)), (1, (1,))), (1, 0, 1)), (((0, (0, 1)), (1, (0,))), (0, 1))):
            self.refused(BadLife, {"place": place}, map_by, TWO, 0, life, None)
        self.refused(BadLife, {"place": (2, 0, 1, 1)}, map_by, TURN, 0, ((0, (0, 1)), (0, (1, 2)), (0, (2, 0))), None)
        # What has not the form comes ahead of what does not keep the standing.
        self.refused(BadLife, {"place": (1,)}, map_by, TWO, 0, ((0, (1, 0)), None), None)

    def test_at_the_bounds(self):
        for land in (apart_land(60, 12), blocks_land(60, 12)):
            life = self.quick(free_life, land, 0)
            self.assertEqual(self.quick(map_by, land, 0, life, land[1][0][0]), tuple(range(12)))

    def test_only_plain_values_come_back(self):
        def numbers(value):
            return tuple(map(numbers, value)) if isinstance(value, tuple) else Number(value)
        land, life = numbers(TWO), numbers(LED)
        for found in (all_kept(land, Number(2)), free_life(land, Number(0)), map_by(land, Number(0), life, Number(0)),
                      broken_life(land, numbers(((0, (0, 0)), (1, (1,)))))):
            self.assertTrue(plain_throughout(found))
        self.assertIs(is_kept(land, life), True)


if __name__ == "__main__":
    unittest.main()
