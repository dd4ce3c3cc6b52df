"""[5], [7], [27], [29] Worlds of arrows: from lands and back, and all standings of small holders."""

import unittest
from itertools import permutations, product

from holdfills.errors import BadHolder, BadParameter, BadStanding, TooGreat
from holdfills.standings import need_land, need_standing
from holdfills.worlds import all_standings, land_of, world_of
from landed import BACK, END, GREAT, LandCase, NO_HOLDER, ONWARD, TWO_ROOMS
from landed import apart_land, blocks_land, first_broken, forms, lands, standings, turning, turning_land
from samples import Number, STRANGE, STRANGE_INTEGERS, STRANGE_TUPLES, plain_throughout, rows

SMALL = [(), (1,), (2,), (1, 1), (2, 1), (1, 2), (2, 2), (1, 1, 1)]
# What a world of two rooms with one arrow between them is, and what is no number of a room or of an arrow.
ARROW = (2, ((0, 0), (0, 1), (1, 1)), (0, 2), ((0, 1), (1,), (2,)))
NO_NUMBER = STRANGE + STRANGE_INTEGERS + [()]


def spelled_world(holder, standing):
    """Return the world of a land, found by names."""
    arrows = [(s, p) for s, size in enumerate(holder) for p in range(size)]
    ends = tuple(arrows.index((s, here)) for s, (here, _) in enumerate(standing))
    fromto, joins = [], []
    for s, p in arrows:
        there, beyond = standing[s][1][p]
        fromto.append((s, there))
        joins.append(tuple(arrows.index((s, beyond[q])) for r, q in arrows if r == there))
    return len(holder), tuple(fromto), ends, tuple(joins)


def moved_world(world, order):
    """Return the same world with its arrows in another order: the arrow ORDER[N] gets the number N."""
    rooms, arrows, ends, joins = world
    number = {old: new for new, old in enumerate(order)}
    told = []
    for old in order:
        onward = [other for other, (start, _) in enumerate(arrows) if start == arrows[old][1]]
        led = {number[other]: number[to] for other, to in zip(onward, joins[old])}
        told.append(tuple(led[other] for other in sorted(led)))
    return rooms, tuple(arrows[old] for old in order), tuple(number[end] for end in ends), tuple(told)


class WorldOf(LandCase):

    def test_rooms_and_arrows_as_told(self):
        for holder, standing in lands(*SMALL) + [turning_land(5), apart_land(3, 3), blocks_land(6, 3)]:
            world = world_of((holder, standing))
            self.assertEqual(world, spelled_world(holder, standing))
            self.assertTrue(plain_throughout(world))
            self.assertEqual(land_of(world), (holder, standing))

    def test_to_the_letter(self):
        self.assertEqual(world_of(((), ())), (0, (), (), ()))
        self.assertEqual(world_of(END), (1, ((0, 0),), (0,), ((0,),)))
        self.assertEqual(world_of(((2,), BACK)), (1, ((0, 0), (0, 0)), (0,), ((0, 1), (1, 0))))
        self.assertEqual(world_of(((2,), ((1, ((0, (1, 0)), (0, (0, 1)))),))), (1, ((0, 0), (0, 0)), (1,), ((1, 0), (0, 1))))
        self.assertEqual(world_of(((2, 1), TWO_ROOMS)), ARROW)

    def test_the_laws_of_arrows(self):
        for land in lands(*SMALL):
            rooms, arrows, ends, joins = world_of(land)
            onward = [[g for g, (start, _) in enumerate(arrows) if start == to] for _, to in arrows]
            joined = {(f, g): joins[f][at] for f in range(len(arrows)) for at, g in enumerate(onward[f])}
            for room in range(rooms):
                self.assertEqual(arrows[ends[room]], (room, room))
            for f, (start, to) in enumerate(arrows):
                self.assertEqual((joined[(f, ends[to])], joined[(ends[start], f)]), (f, f))
                for g in onward[f]:
                    self.assertEqual(arrows[joined[(f, g)]], (start, arrows[g][1]))
                    for h in onward[g]:
                        self.assertEqual(joined[(joined[(f, g)], h)], joined[(f, joined[(g, h)])])

    def test_the_errors_of_a_land(self):
        self.asks_for_a_land(world_of)

    def test_no_noticeable_time(self):
        for holder, standing in (apart_land(60, 12), blocks_land(60, 12)):
            world = self.quick(world_of, (holder, standing))
            self.assertEqual(world, spelled_world(holder, standing))
            self.assertEqual(self.quick(land_of, world), (holder, standing))


class LandOf(LandCase):

    def test_places_are_the_arrows_in_their_order(self):
        for land in lands((2,), (2, 1), (1, 2), (1, 1), (2, 2)):
            world = world_of(land)
            for order in permutations(range(len(world[1]))):
                moved = moved_world(world, order)
                found = land_of(moved)
                self.assertEqual(found, need_land(found))
                # The arrows from each room, in their order, are its places.
                spots = [[n for n in range(len(order)) if moved[1][n][0] == room] for room in range(moved[0])]
                place = {n: row.index(n) for row in spots for n in row}
                self.assertEqual(found[0], tuple(len(row) for row in spots))
                for room, (here, seen) in enumerate(found[1]):
                    self.assertEqual(here, place[moved[2][room]])
                    for n, (there, beyond) in zip(spots[room], seen):
                        self.assertEqual(there, moved[1][n][1])
                        self.assertEqual(beyond, tuple(place[to] for to in moved[3][n]))

    def test_arrows_out_of_order_to_the_letter(self):
        # The same two rooms with one arrow between them; first the arrow of the second room, then those of the first one.
        world = (2, ((1, 1), (0, 1), (0, 0)), (2, 0), ((0,), (1,), (1, 2)))
        self.assertEqual(land_of(world), ((2, 1), ((1, ((1, (0,)), (0, (0, 1)))), (0, ((1, (0,)),)))))
        self.assertEqual(land_of(ARROW), ((2, 1), TWO_ROOMS))
        self.assertEqual(land_of((0, (), (), ())), ((), ()))

    def test_what_has_the_form_is_a_land_or_breaks_its_rules(self):
        met = {}
        for holder in ((1,), (2,), (1, 1), (2, 1)):
            for form in forms(holder):
                world = spelled_world(holder, form)
                broken = first_broken(holder, form)
                met[broken and broken[0]] = met.get(broken and broken[0], 0) + 1
                if broken is None:
                    self.assertEqual(land_of(world), (holder, form))
                else:
                    self.refused(BadStanding, {"place": broken}, land_of, world)
        self.assertEqual(sorted(rule for rule in met if rule is not None), [0, 1, 2])

    def test_the_later_rules(self):
        for holder, standing, place in (
                ((3,), ((0, ((0, (0, 1, 2)), (0, (1, 2, 2)), (0, (2, 1, 2)))),), (4, 0, 1, 1, 1)),
                ((3, 1), ((0, ((0, (0, 1, 2)), (0, (1, 2, 2)), (0, (2, 1, 2)))), (0, ((1, (0,)),))), (4, 0, 1, 1, 1)),
                ((3, 3, 3), tuple((room, tuple((seen, (0, 1, 0) if (room, seen) == (0, 1) else (0, 1, 2)) for seen in range(3)))
                                  for room in range(3)), (3, 0, 1, 2))):
            self.assertEqual(first_broken(holder, standing), place)
            self.refused(BadStanding, {"place": place}, land_of, spelled_world(holder, standing))

    def test_broken_rules_are_told_by_rooms_and_places(self):
        # The arrow 0 is the place 0 of the room 1, the arrow 1 the place 0 of the room 0, and so on.
        good = (2, ((1, 1), (0, 0), (1, 1), (0, 1)), (1, 2), ((2, 0), (1, 3), (0, 2), (3, 3)))
        self.assertEqual(land_of(good), ((2, 2), ((0, ((0, (0, 1)), (1, (1, 1)))), (1, ((1, (1, 0)), (1, (0, 1)))))))
        self.refused(BadStanding, {"place": (0, 0)}, land_of, good[:2] + ((3, 2),) + good[3:])
        self.refused(BadStanding, {"place": (1, 1, 0)}, land_of, good[:3] + (((2, 0), (1, 3), (2, 2), (3, 3)),))
        self.refused(BadStanding, {"place": (2, 0, 1)}, land_of, good[:3] + (((2, 0), (1, 3), (0, 2), (3, 1)),))
        self.refused(BadStanding, {"place": (3, 0, 1, 0)}, land_of, good[:3] + (((2, 0), (1, 3), (0, 2), (1, 3)),))

    def test_what_is_no_world(self):
        for bad in STRANGE + STRANGE_TUPLES + STRANGE_INTEGERS + [(), ARROW[:3], ARROW + ((),), list(ARROW)]:
            self.refused(BadParameter, {"value": bad}, land_of, bad)
        rooms, arrows, ends, joins = ARROW
        for bad in NO_NUMBER + [0, 1, 61, 10 ** 9]:
            self.asks_for_a_world((bad, arrows, ends, joins))
        for bad in STRANGE + STRANGE_INTEGERS + [(), arrows[:2], arrows + arrows[:1], list(arrows), dict(arrows)]:
            self.asks_for_a_world((rooms, bad, ends, joins))
        for bad in STRANGE + STRANGE_TUPLES + [(0, 2), (2, 0), (0, -1), (0, 1, 1), [0, 1], "01", (0, 10 ** 70)]:
            self.asks_for_a_world((rooms, (arrows[0], bad, arrows[2]), ends, joins))
        for bad in NO_NUMBER:
            self.asks_for_a_world((rooms, (arrows[0], (bad, 1), arrows[2]), ends, joins))
            self.asks_for_a_world((rooms, (arrows[0], (0, bad), arrows[2]), ends, joins))
        for bad in STRANGE + STRANGE_TUPLES + [(), (0,), (0, 2, 2), [0, 2], (2, 2), (0, 1), (0, 0), (0, 3), (-1, 2)]:
            self.asks_for_a_world((rooms, arrows, bad, joins))
        for bad in NO_NUMBER:
            self.asks_for_a_world((rooms, arrows, (bad, 2), joins))
            self.asks_for_a_world((rooms, arrows, (0, bad), joins))
        for bad in STRANGE + STRANGE_TUPLES + [(), joins[:2], joins + joins[:1], list(joins)]:
            self.asks_for_a_world((rooms, arrows, ends, bad))
        for bad in STRANGE + STRANGE_TUPLES + [(), (0,), (0, 1, 1), (0, 2), (2, 1), (0, 3), (0, -1), [0, 1]]:
            self.asks_for_a_world((rooms, arrows, ends, (bad,) + joins[1:]))
        for bad in NO_NUMBER + [2, 3]:
            self.asks_for_a_world((rooms, arrows, ends, ((0, bad),) + joins[1:]))
            self.asks_for_a_world((rooms, arrows, ends, joins[:1] + ((bad,),) + joins[2:]))

    def asks_for_a_world(self, bad):
        self.refused(BadParameter, {"value": bad}, land_of, bad)

    def test_a_room_without_arrows_has_no_end(self):
        for ends in ((), (0,), (None,)):
            self.asks_for_a_world((1, (), ends, ()))
        for end in (0, 1, -1, None):
            self.asks_for_a_world((2, ((0, 0),), (0, end), ((0,),)))

    def test_the_form_comes_ahead_of_the_rules(self):
        # The arrow to another room at the place here breaks a rule, but the last join has not the form.
        self.refused(BadStanding, {"place": (0, 0)}, land_of, (2, ARROW[1], (1, 2), ARROW[3]))
        self.asks_for_a_world((2, ARROW[1], (1, 2), ARROW[3][:2] + ((0,),)))

    def test_60_rooms_and_61(self):
        for rooms in (60, 61):
            world = (rooms, tuple((room, room) for room in range(rooms)), tuple(range(rooms)),
                     tuple((room,) for room in range(rooms)))
            if rooms == 60:
                self.assertEqual(land_of(world), apart_land(60, 1))
            else:
                self.asks_for_a_world(world)

    def test_12_arrows_from_a_room_and_13(self):
        for size in (12, 13):
            for room in range(2):
                holder = (1, size) if room else (size, 1)
                one, other = turning(size), turning(1)
                standing = (one, other) if room == 0 else (other, one)
                standing = tuple((here, tuple((at, beyond) for _, beyond in seen)) for at, (here, seen) in enumerate(standing))
                world = spelled_world(holder, standing)
                if size == 12:
                    self.assertEqual(land_of(world), (holder, standing))
                else:
                    self.asks_for_a_world(world)
        self.quick(self.asks_for_a_world, (1, ((0, 0),) * 10 ** 6, (0,), ()))

    def test_only_plain_values_come_back(self):
        def numbers(value):
            return tuple(map(numbers, value)) if isinstance(value, tuple) else Number(value)
        for land in lands(*SMALL):
            self.assertTrue(plain_throughout(land_of(numbers(world_of(land)))))
            self.assertEqual(land_of(numbers(world_of(land))), land)


class AllStandings(LandCase):

    def test_all_of_small_holders(self):
        for holder in SMALL + [(1, 1, 1, 1)]:
            self.assertEqual(list(all_standings(holder)), sorted(standings(holder)))
            self.assertTrue(plain_throughout(all_standings(holder)))

    def test_the_example(self):
        turned = tuple(((1, ((0, (away, 0)), (0, (0, 1)))),) for away in (0, 1))
        self.assertEqual(all_standings((2,)), (BACK, ONWARD) + turned)
        self.assertIn(TWO_ROOMS, all_standings((2, 1)))

    def test_how_many(self):
        for holder, count in (((), 1), ((1,), 1), ((2,), 4), ((3,), 33), ((4,), 624), ((1, 1), 1), ((1, 1, 1), 1)):
            self.assertEqual(len(all_standings(holder)), count)

    def test_standings_of_one_room_are_the_monoids(self):
        for size in (1, 2, 3):
            monoids = set()
            for table in product(rows(size, size), repeat=size):
                for unit in range(size):
                    whole = all(table[unit][p] == p == table[p][unit] for p in range(size))
                    if whole and all(table[p][table[q][r]] == table[table[p][q]][r] for p, q, r in product(range(size), repeat=3)):
                        monoids.add(((unit, tuple((0, row) for row in table)),))
            self.assertEqual(list(all_standings((size,))), sorted(monoids))

    def test_four_places_in_one_room(self):
        found = self.quick(all_standings, (4,))
        self.assertEqual((len(found), len(set(found)), sorted(found)), (624, 624, list(found)))
        for standing in found:
            self.assertEqual(need_standing((4,), standing), standing)
        self.assertIn((turning(4),), found)

    def test_four_places_in_several_rooms(self):
        for holder in ((3, 1), (1, 3), (2, 2), (1, 1, 2), (1, 2, 1), (2, 1, 1), (1, 1, 1, 1)):
            found = self.quick(all_standings, holder)
            self.assertEqual(sorted(set(found)), list(found))
            for standing in found:
                self.assertIsNone(first_broken(holder, standing))
        # A room of two places by itself, or one that sees one of the others.
        self.assertEqual(len(all_standings((1, 1, 2))), 8)
        # However the rooms are numbered, there are as many.
        self.assertEqual(len(all_standings((3, 1))), len(all_standings((1, 3))))
        self.assertEqual(sorted(land_of(moved_rooms(world_of(((3, 1), one)))) for one in all_standings((3, 1))),
                         [((1, 3), one) for one in all_standings((1, 3))])

    def test_shapes_without_places(self):
        for holder in ((0,), (0, 0), (1, 0), (0, 3), (2, 0, 2), (0, 4), (0,) * 60):
            self.assertEqual(all_standings(holder), ())

    def test_more_than_four_places_together(self):
        for holder in ((5,), (4, 1), (1, 4), (2, 2, 1), (1,) * 5, (0, 5), (3, 0, 2), (12,), GREAT, (1,) * 60):
            self.refused(TooGreat, {"most": 4}, all_standings, holder)
            self.quick(self.refused, TooGreat, {"most": 4}, all_standings, holder)

    def test_what_is_no_holder(self):
        for bad in NO_HOLDER + [(13, 0), (5, 5, 13)]:
            self.refused(BadHolder, {"value": bad}, all_standings, bad)


def moved_rooms(world):
    """Return the same world with its two rooms exchanged."""
    _, arrows, ends, joins = world
    return 2, tuple((1 - start, 1 - to) for start, to in arrows), ends[::-1], joins


if __name__ == "__main__":
    unittest.main()
