"""[7], [21], [30], [31] Lands from lands, and programs that keep standing."""

import unittest
from itertools import product

from holdfills.deeds import added, beside
from holdfills.errors import BadHolder, BadParameter, BadProgram, NoRow, TooGreat
from holdfills.lands import all_keeping, broken_keeping, end_land, has_backs, is_keeping, is_thin
from holdfills.lands import land_added, land_beside, land_turned
from holdfills.programs import count_programs, one_behind, still
from holdfills.standings import need_land
from landed import BACK, END, GREAT, LandCase, NO_HOLDER, ONWARD, TWO_ROOMS
from landed import Told, apart_land, blocks_land, first_broken, lands, turning_land
from samples import MOST, Number, STRANGE, STRANGE_INTEGERS, STRANGE_TUPLES, plain_throughout, programs, rows

EMPTY = ((), ())
WIDE = apart_land(60, 1)
SMALL = lands((), (1,), (2,), (1, 1), (2, 1), (1, 2))
MORE = SMALL + lands((2, 2), (1, 1, 1)) + [turning_land(3), blocks_land(3, 3), blocks_land(2, 2)]
NO_PROGRAM = STRANGE + STRANGE_INTEGERS + [(), [(0, (0,))], {0: (0, (0,))}]


def spelled_land(names, places, here, see):
    """Return the land whose shapes and places have these names: `see` tells a shape and a function from its places."""
    numbers = {name: at for at, name in enumerate(names)}
    standing = []
    for name in names:
        seen = []
        for place in places(name):
            there, beyond = see(name, place)
            seen.append((numbers[there], tuple(places(name).index(beyond(onward)) for onward in places(there))))
        standing.append((places(name).index(here(name)), tuple(seen)))
    return tuple(len(places(name)) for name in names), tuple(standing)


def spelled_added(one, other):
    told = (Told(*one), Told(*other))
    return spelled_land([(half, s) for half in (0, 1) for s in told[half].shapes()],
                        lambda name: list(told[name[0]].places(name[1])),
                        lambda name: told[name[0]].here(name[1]),
                        lambda name, p: ((name[0], told[name[0]].there(name[1], p)),
                                         lambda q: told[name[0]].beyond(name[1], p, q)))


def spelled_beside(one, other):
    first, second = Told(*one), Told(*other)
    return spelled_land(list(product(first.shapes(), second.shapes())),
                        lambda name: list(product(first.places(name[0]), second.places(name[1]))),
                        lambda name: (first.here(name[0]), second.here(name[1])),
                        lambda name, place: ((first.there(name[0], place[0]), second.there(name[1], place[1])),
                                             lambda onward: (first.beyond(name[0], place[0], onward[0]),
                                                             second.beyond(name[1], place[1], onward[1]))))


def spelled_turned(land):
    told = Told(*land)
    pairs = [(s, p) for s in told.shapes() for p in told.places(s)]
    # From (S, P) the shape S is seen; its place (R, Q), behind that, is the arrow that is first Q and then P.
    return spelled_land(list(told.shapes()), lambda t: [(s, p) for s, p in pairs if told.there(s, p) == t],
                        lambda t: (t, told.here(t)),
                        lambda t, place: (place[0], lambda onward: (onward[0], told.beyond(*onward, place[1]))))


def first_unkept(one, other, program):
    """Return the first rule of [31] that is broken, the least rule first, then the least numbers, or None."""
    here, there, beyond = Told(*one).here, Told(*one).there, Told(*one).beyond
    other_here, other_there, other_beyond = Told(*other).here, Told(*other).there, Told(*other).beyond
    shapes = range(len(one[0]))

    def to(s):
        return program[s][0]

    def back(s, q):
        return program[s][1][q]

    def places(s):
        return range(other[0][s])

    for s in shapes:
        if back(s, other_here(to(s))) != here(s):
            return 0, s
    for s in shapes:
        for q in places(to(s)):
            if other_there(to(s), q) != to(there(s, back(s, q))):
                return 1, s, q
    for s in shapes:
        for q in places(to(s)):
            for r in places(other_there(to(s), q)):
                if back(s, other_beyond(to(s), q, r)) != beyond(s, back(s, q), back(there(s, back(s, q)), r)):
                    return 2, s, q, r
    return None


class Added(LandCase):

    def test_nothing_of_one_is_seen_from_the_other(self):
        for one, other in product(MORE, MORE):
            found = land_added(one, other)
            self.assertEqual(found, spelled_added(one, other))
            self.assertEqual(need_land(found), found)
            self.assertEqual(found[0], added(one[0], other[0]))
            self.assertTrue(plain_throughout(found))

    def test_to_the_letter(self):
        self.assertEqual(land_added(((2, 1), TWO_ROOMS), ((2,), BACK)), (
            (2, 1, 2), ((0, ((0, (0, 1)), (1, (1,)))), (0, ((1, (0,)),)), (0, ((2, (0, 1)), (2, (1, 0)))))))
        self.assertEqual((land_added(EMPTY, END), land_added(END, EMPTY), land_added(EMPTY, EMPTY)), (END, END, EMPTY))

    def test_60_rooms_and_61(self):
        for few in (1, 30, 59, 60):
            found = self.quick(land_added, apart_land(few, 12), apart_land(60 - few, 12))
            self.assertEqual(found, apart_land(60, 12))
            self.refused(TooGreat, {"most": 60}, land_added, apart_land(few, 12), apart_land(61 - few, 12))

    def test_the_errors_in_their_order(self):
        self.asks_for_a_land(lambda land: land_added(land, None))
        self.asks_for_a_land(lambda land: land_added(WIDE, land))


class Beside(LandCase):

    def test_one_stands_in_both_at_once(self):
        for one, other in product(MORE, MORE):
            if sum(one[0]) * sum(other[0]) < 40:
                found = land_beside(one, other)
                self.assertEqual(found, spelled_beside(one, other))
                self.assertEqual(need_land(found), found)
                self.assertEqual(found[0], beside(one[0], other[0]))
                self.assertTrue(plain_throughout(found))

    def test_to_the_letter(self):
        self.assertEqual(land_beside(((2,), BACK), ((2,), ONWARD)), (
            (4,), ((0, ((0, (0, 1, 2, 3)), (0, (1, 1, 3, 3)), (0, (2, 3, 0, 1)), (0, (3, 3, 1, 1)))),)))
        self.assertEqual(land_beside(END, ((2, 1), TWO_ROOMS)), ((2, 1), TWO_ROOMS))
        self.assertEqual(land_beside(((2, 1), TWO_ROOMS), END), ((2, 1), TWO_ROOMS))
        self.assertEqual((land_beside(EMPTY, END), land_beside(END, EMPTY)), (EMPTY, EMPTY))

    def test_at_the_bounds(self):
        for one, other in ((apart_land(60, 12), END), (END, blocks_land(60, 12)), (apart_land(20, 4), blocks_land(3, 3)),
                           (blocks_land(6, 3), apart_land(10, 4)), (turning_land(12), apart_land(60, 1))):
            found = self.quick(land_beside, one, other)
            self.assertEqual(found, spelled_beside(one, other))
            self.assertEqual(len(found[0]) * found[0][0], 60 * 12)

    def test_60_rooms_and_12_places_and_more(self):
        for one, other, most in ((apart_land(31, 1), apart_land(2, 1), 60), (apart_land(8, 1), apart_land(8, 1), 60),
                                 (apart_land(60, 12), apart_land(60, 12), 60), (apart_land(31, 12), apart_land(2, 2), 60),
                                 (turning_land(7), turning_land(2), 12), (turning_land(12), turning_land(12), 12),
                                 (land_added(END, turning_land(4)), land_added(END, turning_land(4)), 12),
                                 (apart_land(30, 12), apart_land(2, 2), 12)):
            self.quick(self.refused, TooGreat, {"most": most}, land_beside, one, other)

    def test_the_errors_in_their_order(self):
        self.asks_for_a_land(lambda land: land_beside(land, None))
        self.asks_for_a_land(lambda land: land_beside(WIDE, land))


class Turned(LandCase):

    def test_all_arrows_are_turned_about(self):
        for land in MORE + [apart_land(3, 3), blocks_land(6, 3)]:
            found = land_turned(land)
            self.assertEqual(found, spelled_turned(land))
            self.assertEqual(need_land(found), found)
            self.assertTrue(plain_throughout(found))

    def test_to_the_letter(self):
        self.assertEqual(land_turned(((2, 1), TWO_ROOMS)), (
            (1, 2), ((0, ((0, (0,)),)), (1, ((0, (0,)), (1, (0, 1)))))))
        self.assertEqual(land_turned(((2,), ONWARD)), ((2,), ONWARD))
        # One room of three places: 1 and then anything is 1, 2 and then anything is 2, and the other way about.
        left = ((3,), ((0, ((0, (0, 1, 2)), (0, (1, 1, 1)), (0, (2, 2, 2)))),))
        self.assertEqual(land_turned(left), ((3,), ((0, ((0, (0, 1, 2)), (0, (1, 1, 2)), (0, (2, 1, 2)))),)))
        self.assertEqual((land_turned(EMPTY), land_turned(END)), (EMPTY, END))

    def test_turned_twice_all_arrows_are_as_they_were(self):
        for land in MORE:
            once = land_turned(land)
            self.assertEqual(land_turned(land_turned(once)), once)
            if all(there == tuple(sorted(there)) for there in [tuple(pair[0] for pair in seen) for _, seen in land[1]]):
                self.assertEqual(land_turned(once), land)

    def test_12_places_and_13(self):
        # A room that is seen from so many rooms, each by one place, and from itself.
        for many in (12, 13, 60):
            around = tuple((0, ((room, (0, 1)), (0, (1,)))) for room in range(1, many))
            land = ((1,) + (2,) * (many - 1), ((0, ((0, (0,)),)),) + around)
            self.assertIsNone(first_broken(*land))
            if many == 12:
                found = self.quick(land_turned, land)
                self.assertEqual(found[0], (12,) + (1,) * 11)
                self.assertEqual(found, spelled_turned(land))
            else:
                self.refused(TooGreat, {"most": 12}, land_turned, land)

    def test_at_the_bounds(self):
        for land in (apart_land(60, 12), blocks_land(60, 12)):
            self.assertEqual(self.quick(land_turned, land), spelled_turned(land))

    def test_the_errors_of_a_land(self):
        self.asks_for_a_land(land_turned)


class LandsLookedAt(LandCase):

    def test_end_land(self):
        self.assertEqual(end_land(()), EMPTY)
        self.assertEqual(end_land((5,)), END)
        self.assertEqual(end_land((0, 12)), ((1, 1), ((0, ((0, (0,)),)), (0, ((1, (0,)),)))))
        for holder in ((), (0,), (3,), (2, 1), (0, 0, 1), GREAT):
            found = end_land(holder)
            self.assertEqual(found, apart_land(len(holder), 1))
            self.assertEqual(need_land(found), found)
            self.assertTrue(plain_throughout(found))
        for bad in NO_HOLDER:
            self.refused(BadHolder, {"value": bad}, end_land, bad)

    def test_one_program_keeps_the_standing_of_rooms_led_to_the_ends(self):
        # To the end land of its own holder, each land keeps standing by leading each room to itself, its thing to here.
        for land in MORE:
            if count_programs(land[0], end_land(land[0])[0]) <= 400:
                self.assertIn(tuple((shape, (here,)) for shape, (here, _) in enumerate(land[1])),
                              [program for program in programs(land[0], end_land(land[0])[0])
                               if is_keeping(land, end_land(land[0]), program)])

    def test_has_backs(self):
        for land in MORE + [apart_land(3, 3), blocks_land(6, 3)]:
            told = Told(*land)
            there_and_back = all(any(told.beyond(s, p, q) == told.here(s) for q in told.places(told.there(s, p)))
                                 for s in told.shapes() for p in told.places(s))
            self.assertIs(has_backs(land), there_and_back)
        for land, answer in ((EMPTY, True), (END, True), (((2,), BACK), True), (((2,), ONWARD), False),
                             (((2, 1), TWO_ROOMS), False), (blocks_land(60, 12), True), (turning_land(12), True)):
            self.assertIs(self.quick(has_backs, land), answer)
        self.asks_for_a_land(has_backs)

    def test_is_thin(self):
        for land in MORE + [apart_land(3, 3), blocks_land(6, 3)]:
            told = Told(*land)
            once = all(told.there(s, p) != told.there(s, q) for s in told.shapes() for p, q in product(told.places(s), repeat=2)
                       if p < q)
            self.assertIs(is_thin(land), once)
        for land, answer in ((EMPTY, True), (END, True), (((2,), BACK), False), (((2,), ONWARD), False),
                             (((2, 1), TWO_ROOMS), True), (blocks_land(60, 12), True), (turning_land(12), False)):
            self.assertIs(self.quick(is_thin, land), answer)
        self.asks_for_a_land(is_thin)


class Keeping(LandCase):

    def check(self, one, other, program):
        """Check what is told of a program, and return the first rule that it breaks."""
        broken = first_unkept(one, other, program)
        self.assertIs(is_keeping(one, other, program), broken is None)
        if broken is None:
            self.refused(NoRow, {}, broken_keeping, one, other, program)
        else:
            found = broken_keeping(one, other, program)
            self.assertEqual(found, broken)
            self.assertTrue(plain_throughout(found))
        return broken

    def test_all_programs_between_small_lands(self):
        met = set()
        for one, other in product(SMALL, SMALL):
            if count_programs(one[0], other[0]) <= 64:
                kept = []
                for program in programs(one[0], other[0]):
                    broken = self.check(one, other, program)
                    met.add(broken and broken[0])
                    if broken is None:
                        kept.append(program)
                self.assertEqual(all_keeping(one, other), tuple(kept))
        self.assertEqual(met, {None, 0, 1, 2})

    def test_each_rule_alone(self):
        room = turning_land(3)
        self.assertEqual(self.check(room, room, ((0, (1, 2, 0)),)), (0, 0))
        self.assertEqual(self.check(room, room, ((0, (0, 1, 1)),)), (2, 0, 1, 1))
        self.assertEqual(self.check(room, room, ((0, (0, 2, 1)),)), None)
        self.assertEqual(self.check(room, room, ((0, (0, 0, 0)),)), None)
        rooms = land_added(END, room)
        self.assertEqual(self.check(rooms, rooms, ((0, (0,)), (1, (2, 0, 1)))), (0, 1))
        self.assertEqual(self.check(rooms, rooms, ((0, (0,)), (1, (0, 2, 2)))), (2, 1, 1, 1))
        self.assertEqual(self.check(rooms, rooms, ((1, (0, 0, 0)), (0, (0,)))), None)
        self.assertEqual(self.check(rooms, rooms, ((1, (0, 0, 0)), (1, (0, 2, 2)))), (2, 1, 1, 1))
        two = ((2, 1), TWO_ROOMS)
        self.assertEqual(self.check(two, two, ((0, (0, 1)), (1, (0,)))), None)
        self.assertEqual(self.check(two, two, ((0, (0, 0)), (1, (0,)))), (1, 0, 1))
        self.assertEqual(self.check(two, two, ((0, (0, 1)), (0, (0, 0)))), (1, 0, 1))
        self.assertEqual(self.check(two, two, ((0, (1, 1)), (0, (0, 0)))), (0, 0))
        self.assertEqual(self.check(two, two, ((0, (0, 0)), (0, (0, 0)))), (1, 0, 1))
        pair = land_added(two, two)
        self.assertEqual(self.check(pair, pair, ((0, (0, 1)), (1, (0,)), (2, (0, 0)), (3, (0,)))), (1, 2, 1))
        self.assertEqual(self.check(pair, pair, ((0, (0, 1)), (1, (0,)), (2, (0, 1)), (1, (0,)))), (1, 2, 1))
        # The room 0 breaks the rule 2, the room 2 a lesser one.
        mixed = land_added(land_added(room, END), two)
        good = ((0, (0, 1, 2)), (1, (0,)), (2, (0, 1)), (3, (0,)))
        self.assertEqual(self.check(mixed, mixed, good), None)
        self.assertEqual(self.check(mixed, mixed, ((0, (0, 1, 1)),) + good[1:]), (2, 0, 1, 1))
        self.assertEqual(self.check(mixed, mixed, ((0, (0, 1, 1)),) + good[1:2] + ((2, (0, 0)),) + good[3:]), (1, 2, 1))
        self.assertEqual(self.check(mixed, mixed, ((0, (0, 1, 1)),) + good[1:2] + ((2, (1, 0)),) + good[3:]), (0, 2))

    def test_the_place_r_in_rule_2(self):
        # Of (2, 0, 1, R) and (2, 0, 2, R) the least comes first.
        for one, other in product([land for land in lands((3,)) if land[1][0][0] == 0][:12], repeat=2):
            for places in rows(3, 3):
                self.check(one, other, ((0, places),))

    def test_one_room_maps_of_monoids_the_other_way(self):
        kept = 0
        for one, other in product(lands((1,), (2,), (3,)), repeat=2):
            if one[0][0] * other[0][0] == 9 and (one[1][0][0], other[1][0][0]) != (0, 0):
                continue
            size, goal = one[0][0], other[0][0]
            (here, table), (other_here, other_table) = one[1][0], other[1][0]
            maps = [row for row in rows(size, goal) if row[other_here] == here and all(
                row[other_table[p][1][q]] == table[row[p]][1][row[q]] for p, q in product(range(goal), repeat=2))]
            kept += len(maps)
            self.assertEqual(all_keeping(one, other), tuple(((0, row),) for row in maps))
        self.assertGreater(kept, 100)

    def test_one_behind_another_keeps_standing(self):
        tried = 0
        for one, middle, other in product(lands((2,), (2, 1), (1, 1)), repeat=3):
            for first, second in product(all_keeping(one, middle), all_keeping(middle, other)):
                self.assertTrue(is_keeping(one, other, one_behind(one[0], middle[0], other[0], first, second)))
                tried += 1
        for land in MORE:
            self.assertTrue(is_keeping(land, land, still(land[0])))
        self.assertGreater(tried, 1000)

    def test_the_looks_of_what_is_added(self):
        for one, other in product(SMALL, SMALL):
            both = land_added(one, other)
            self.assertTrue(is_keeping(one, both, still(both[0])[:len(one[0])]))

    def test_the_edges(self):
        self.assertEqual(all_keeping(EMPTY, EMPTY), ((),))
        self.assertEqual(all_keeping(EMPTY, END), ((),))
        self.assertEqual(all_keeping(END, EMPTY), ())
        self.assertEqual(all_keeping(apart_land(60, 1), END), (((0, (0,)),) * 60,))
        self.assertIs(is_keeping(EMPTY, END, ()), True)
        self.refused(NoRow, {}, broken_keeping, EMPTY, END, ())

    def test_400_programs_and_more(self):
        one = apart_land(2, 2)
        other = land_added(turning_land(4), turning_land(2))
        self.assertEqual(count_programs(one[0], other[0]), 400)
        found = self.quick(all_keeping, one, other)
        self.assertEqual(found, tuple(program for program in programs(one[0], other[0]) if first_unkept(one, other, program) is None))
        self.assertEqual(len(found), 16)
        goal = land_added(land_added(turning_land(8), turning_land(7)), land_added(turning_land(4), END))
        self.assertEqual(count_programs((2,), goal[0]), 402)
        self.refused(TooGreat, {"most": 400}, all_keeping, turning_land(2), goal)
        # 256 ways to keep 60 rooms in one of them; and far more than can be listed.
        rooms = land_added(turning_land(2), apart_land(59, 1))
        self.assertEqual(len(self.quick(all_keeping, rooms, turning_land(8))), 2)
        self.quick(self.refused, TooGreat, {"most": 400}, all_keeping, apart_land(60, 12), blocks_land(60, 12))

    def test_at_the_bounds(self):
        for land in (apart_land(60, 12), blocks_land(60, 12)):
            self.assertIs(self.quick(is_keeping, land, land, still(land[0])), True)
            wrong = still(land[0])[:59] + ((59, tuple(range(11)) + (0,)),)
            self.assertEqual(self.quick(broken_keeping, land, land, wrong), first_unkept(land, land, wrong))

    def test_the_program(self):
        land = ((2, 1), TWO_ROOMS)
        for function in (is_keeping, broken_keeping):
            for bad in NO_PROGRAM + [((0, (0, 1)),), ((0, (0, 1)),) * 3]:
                self.refused(BadProgram, {"place": ()}, function, land, land, bad)
            for bad in STRANGE + STRANGE_TUPLES + [(0, (0,)), (1, (2,)), (2, (0,)), (0, (0, MOST))]:
                self.refused(BadProgram, {"place": (0,)}, function, land, land, (bad, None))
                self.refused(BadProgram, {"place": (1,)}, function, land, land, ((0, (0, 1)), bad))
            self.refused(BadProgram, {"place": (0,)}, function, END, EMPTY, ((0, (0,)),))

    def test_the_errors_in_their_order(self):
        for call in (lambda land: is_keeping(land, None, None), lambda land: is_keeping(END, land, None),
                     lambda land: broken_keeping(land, None, None), lambda land: broken_keeping(END, land, None),
                     lambda land: all_keeping(land, None), lambda land: all_keeping(WIDE, land)):
            self.asks_for_a_land(call)

    def test_numbers_of_the_tests_own_kind(self):
        def numbers(value):
            return tuple(map(numbers, value)) if isinstance(value, tuple) else Number(value)
        land = numbers(((2, 1), TWO_ROOMS))
        for found in (land_added(land, land), land_beside(land, numbers(END)), land_turned(land), end_land(land[0]),
                      all_keeping(land, land), broken_keeping(land, land, numbers(((0, (0, 0)), (1, (0,)))))):
            self.assertTrue(plain_throughout(found))
        self.refused(BadParameter, {"value": None}, land_beside, land, None)


if __name__ == "__main__":
    unittest.main()
