"""[7], [21], [36], [37] Exchanges of two ways of standing, and lands that are put together by them."""

import unittest
from functools import lru_cache
from itertools import product

import spelled
from holdfills.errors import BadExchange, TooGreat
from holdfills.exchanges import all_exchanges, first_look, land_together, need_exchange, second_look
from holdfills.inside import put_into
from holdfills.lands import is_keeping, land_added, land_beside
from holdfills.programs import count_programs, still
from holdfills.standings import need_land
from landed import BACK, END, LandCase, ONWARD, TWO_ROOMS
from landed import Told, apart_land, blocks_land, lands, turning_land
from samples import MOST, Number, STRANGE, STRANGE_INTEGERS, STRANGE_TUPLES
from samples import lead, plain_throughout, programs

EMPTY = ((), ())
TWO = ((2, 1), TWO_ROOMS)
# Pairs of lands of which all programs from the one way round to the other way can be gone through.
PAIRS = list(product(lands((), (1,), (1, 1)), lands((), (1,), (1, 1)))) + list(product(lands((2,)), repeat=2))
PAIRS += [pair for land in lands((2,), (2, 1), (1, 2), (3,))[::3] for pair in ((land, END), (END, land))]
PAIRS += [pair for land in lands((2,))[:2] for pair in ((land, EMPTY), (EMPTY, land))]
NO_PROGRAM = STRANGE + STRANGE_INTEGERS + STRANGE_TUPLES + [(), [(0, (0, 1, 2, 3))], {0: (0, (0, 1, 2, 3))}]


@lru_cache(maxsize=None)
def names(one, other):
    return spelled.put_into(one, other)


def exchanged(first, second, program, filling):
    """Return what a program makes of a filling of the first holder by fillings of the second one."""
    shape, parts = filling
    number = spelled.number_of(names(first, second), (shape, tuple(part for part, _ in parts)))
    to, things = lead(program, (number, tuple(thing for _, row in parts for thing in row)))
    (shape, parts), places = names(second, first)[to]
    told = dict(zip(places, things))
    return shape, tuple((part, tuple(told[(q, p)] for p in range(first[part]))) for q, part in enumerate(parts))


def here(land, filling):
    return filling[1][Told(*land).here(filling[0])]


def everything(land, filling):
    """Return the filling of the fillings as they are seen from each place."""
    told, (shape, things) = Told(*land), filling
    seen = [(told.there(shape, p), [told.beyond(shape, p, q) for q in told.places(told.there(shape, p))])
            for p in told.places(shape)]
    return shape, tuple((there, tuple(things[place] for place in beyond)) for there, beyond in seen)


def within(action, filling):
    return filling[0], tuple(action(thing) for thing in filling[1])


def broken_at(one, other, program, filling):
    """Return the rules of [36] that a program breaks at a filling of the first holder by fillings of the second one."""
    def x(told):
        return exchanged(one[0], other[0], program, told)

    def here_one(told):
        return here(one, told)

    def here_other(told):
        return here(other, told)

    def all_one(told):
        return everything(one, told)

    def all_other(told):
        return everything(other, told)

    made = x(filling)
    kept = (within(here_one, made) == here_one(filling),
            here_other(made) == within(here_other, filling),
            within(all_one, made) == x(within(x, all_one(filling))),
            all_other(made) == within(x, x(within(all_other, filling))))
    return [rule for rule in range(4) if not kept[rule]]


def own_fillings(first, second):
    """Return the own fillings of the second holder put into the first one, as fillings by fillings of names (P, Q)."""
    return [(shape, tuple((part, tuple((p, q) for q in range(second[part]))) for p, part in enumerate(parts)))
            for (shape, parts), _ in names(first, second)]


def first_broken_exchange(one, other, program):
    """Return the least rule that is broken, with the least shape, or None."""
    broken = [(rule, shape) for shape, own in enumerate(own_fillings(one[0], other[0]))
              for rule in broken_at(one, other, program, own)]
    return min(broken, default=None)


def exchanges(one, other):
    """Return all exchanges of two lands, found apart from the program."""
    whole, goal = spelled.sizes(names(one[0], other[0])), spelled.sizes(names(other[0], one[0]))
    return [program for program in programs(whole, goal) if first_broken_exchange(one, other, program) is None]


def spelled_together(one, other, program):
    """Return the land that is put together by an exchange, found by the names of shapes and places."""
    whole = names(one[0], other[0])
    standing = []
    for own, (_, places) in zip(own_fillings(one[0], other[0]), whole):
        seen = []
        for p, q in places:
            there = everything(one, own)[1][p]
            told = within(lambda thing: everything(other, thing), there)
            shape, parts = exchanged(one[0], other[0], program, told)[1][q]
            number = spelled.number_of(whole, (shape, tuple(part for part, _ in parts)))
            seen.append((number, tuple(places.index(name) for _, row in parts for name in row)))
        standing.append((places.index(here(other, here(one, own))), tuple(seen)))
    return spelled.sizes(whole), tuple(standing)


class NeedExchange(LandCase):

    def test_all_programs_of_small_lands(self):
        met = {}
        for one, other in PAIRS:
            whole, goal = put_into(one[0], other[0]), put_into(other[0], one[0])
            kept = []
            for program in programs(whole, goal):
                broken = first_broken_exchange(one, other, program)
                met[broken and broken[0]] = met.get(broken and broken[0], 0) + 1
                if broken is None:
                    self.assertEqual(need_exchange(one, other, program), program)
                    kept.append(program)
                else:
                    self.refused(BadExchange, {"place": broken}, need_exchange, one, other, program)
            self.assertEqual(all_exchanges(one, other), tuple(kept))
        self.assertEqual(sorted(rule for rule in met if rule is not None), [0, 1, 2, 3])
        self.assertGreater(met[None], 50)

    def test_rules_for_all_sets_are_rules_at_own_fillings(self):
        # By two things programs are told apart.
        for one, other in PAIRS:
            if sum(one[0]) * sum(other[0]) <= 4:
                fillings = [(shape, tuple(zip(parts, cut))) for (shape, parts), places in names(one[0], other[0])
                            for cut in product(*[list(product(range(2), repeat=other[0][part])) for part in parts])]
                for program in programs(put_into(one[0], other[0]), put_into(other[0], one[0])):
                    kept = not any(broken_at(one, other, program, filling) for filling in fillings)
                    self.assertEqual(kept, first_broken_exchange(one, other, program) is None)

    def test_to_the_letter(self):
        turn = turning_land(2)
        self.assertEqual(all_exchanges(turn, turn), (((0, (0, 2, 1, 3)),),))
        self.assertEqual(all_exchanges(END, END), (((0, (0,)),),))
        self.assertEqual(all_exchanges(TWO, END), (still((2, 1)),))
        self.assertEqual(all_exchanges(END, TWO), (still((2, 1)),))
        self.assertEqual((all_exchanges(EMPTY, EMPTY), all_exchanges(EMPTY, TWO), all_exchanges(TWO, EMPTY)), (((),),) * 3)

    def test_each_rule_alone(self):
        turn = turning_land(2)
        met = set()
        for places in product(range(4), repeat=4):
            broken = first_broken_exchange(turn, turn, ((0, places),))
            met.add(broken)
            if broken is not None:
                self.refused(BadExchange, {"place": broken}, need_exchange, turn, turn, ((0, places),))
        self.assertEqual(met, {None, (0, 0), (1, 0), (2, 0), (3, 0)})
        # Rooms in which the rule is kept come ahead of one in which it is not.
        three = turning_land(3)
        for land in (land_added(turning_land(1), three), land_added(TWO, three)):
            last = len(land[0]) - 1
            for places, rule in (((0, 2, 1), None), ((1, 2, 0), 0), ((0, 1, 1), 2)):
                program = still(land[0])[:last] + ((last, places),)
                self.assertEqual(first_broken_exchange(land, END, program) is None, places == (0, 1, 2))
                for one, other in ((land, END), (END, land)):
                    place = first_broken_exchange(one, other, program)
                    self.assertEqual(place[1], last)
                    self.refused(BadExchange, {"place": place}, need_exchange, one, other, program)

    def test_a_lesser_rule_at_a_later_shape_comes_first(self):
        land = land_added(turning_land(3), turning_land(3))
        loose, moved = (0, (0, 1, 1)), (1, (1, 2, 0))
        for program in ((loose, (1, (0, 1, 2))), ((0, (0, 1, 2)), moved), (loose, moved), (moved, loose), (loose, (1, (0, 2, 2)))):
            for one, other in ((land, END), (END, land)):
                place = first_broken_exchange(one, other, program)
                self.refused(BadExchange, {"place": place}, need_exchange, one, other, program)
        self.assertEqual(first_broken_exchange(land, END, (loose, moved))[1], 1)

    def test_what_is_no_program(self):
        turn = turning_land(2)
        for bad in NO_PROGRAM:
            self.refused(BadExchange, {"place": ()}, need_exchange, turn, turn, bad)
            self.refused(BadExchange, {"place": ()}, land_together, turn, turn, bad)
            self.refused(BadExchange, {"place": ()}, need_exchange, turn, turn, (bad,))
            self.refused(BadExchange, {"place": ()}, need_exchange, turn, turn, (bad, bad))
        for bad in ((0, (0, 2, 1)), (0, (0, 2, 1, 4)), (1, (0, 2, 1, 3)), (0, (0, 2, 1, -1)), (0, [0, 2, 1, 3]), (0, (0, 2, 1, MOST))):
            self.refused(BadExchange, {"place": ()}, need_exchange, turn, turn, (bad,))
            self.refused(BadExchange, {"place": ()}, need_exchange, land_added(END, turn), END, ((0, (0,)), bad))
        for value in STRANGE + STRANGE_INTEGERS:
            self.refused(BadExchange, {"place": ()}, need_exchange, turn, turn, ((0, (0, 2, 1, value)),))
            self.refused(BadExchange, {"place": ()}, need_exchange, turn, turn, ((value, (0, 2, 1, 3)),))
        self.refused(BadExchange, {"place": ()}, need_exchange, EMPTY, END, ((0, (0,)),))
        self.assertEqual(need_exchange(EMPTY, END, ()), ())

    def test_the_errors_in_their_order(self):
        wide = apart_land(60, 2)
        for call in (need_exchange, land_together, lambda one, other, _: all_exchanges(one, other),
                     lambda one, other, _: first_look(one, other), lambda one, other, _: second_look(one, other)):
            self.asks_for_a_land(lambda land: call(land, None, None))
            self.asks_for_a_land(lambda land: call(wide, land, None))

    def test_bounds_the_one_way_round_and_the_other(self):
        # Put into one another, the first one into the other one, the other one into the first one, or both.
        six, two = turning_land(6), apart_land(2, 1)
        seven, pair = turning_land(7), apart_land(2, 2)
        told = [(six, two, 60), (two, six, 60), (apart_land(8, 2), apart_land(8, 2), 60), (turning_land(4), turning_land(4), 12),
                (seven, pair, 60), (pair, seven, 12), (apart_land(60, 12), apart_land(60, 12), 60), (turning_land(12), pair, 60),
                (pair, turning_land(12), 12), (apart_land(60, 1), two, 60), (apart_land(60, 12), turning_land(2), 12)]
        for one, other, most in told:
            for program in (None, (), still(one[0])):
                self.quick(self.refused, TooGreat, {"most": most}, need_exchange, one, other, program)
                self.quick(self.refused, TooGreat, {"most": most}, land_together, one, other, program)
            self.quick(self.refused, TooGreat, {"most": most}, all_exchanges, one, other)

    def test_400_programs_and_more(self):
        for land, count in ((turning_land(4), 256), (apart_land(4, 1), 256), (land_added(pair_of(2), END), 300),
                            (land_added(turning_land(3), END), 60)):
            whole = put_into(land[0], END[0])
            self.assertEqual(count_programs(whole, put_into(END[0], land[0])), count)
            self.assertEqual(self.quick(all_exchanges, land, END), (still(land[0]),))
            self.assertEqual(self.quick(all_exchanges, END, land), (still(land[0]),))
        pairs = apart_land(2, 1)
        self.assertEqual(list(self.quick(all_exchanges, pairs, pairs)), exchanges(pairs, pairs))
        for one, other in ((turning_land(5), END), (apart_land(5, 1), END), (land_added(turning_land(3), turning_land(2)), END),
                           (turning_land(2), turning_land(3)), (apart_land(60, 12), END), (END, blocks_land(60, 12)),
                           (apart_land(2, 1), apart_land(3, 1))):
            self.quick(self.refused, TooGreat, {"most": 400}, all_exchanges, one, other)

    def test_at_the_bounds(self):
        for land in (apart_land(60, 12), blocks_land(60, 12)):
            program = still(land[0])
            for one, other in ((land, END), (END, land)):
                self.assertEqual(self.quick(need_exchange, one, other, program), program)
                self.assertEqual(self.quick(land_together, one, other, program), land)
            wrong = program[:59] + ((59, tuple(range(11)) + (0,)),)
            self.refused(BadExchange, {"place": first_broken_exchange(land, END, wrong)}, need_exchange, land, END, wrong)
        # A room of three places, at each of them one of three rooms of four places: 27 shapes of 12 places.
        one, other = turning_land(3), apart_land(3, 4)
        program = beside_one_another(one, other)
        self.assertEqual(self.quick(need_exchange, one, other, program), program)
        self.assertEqual(self.quick(land_together, one, other, program), spelled_together(one, other, program))


def pair_of(size):
    """Return the land of two rooms of so many places, each by itself."""
    return apart_land(2, size)


def beside_one_another(one, other):
    """Return the exchange with one room on the one side by which each place is passed on as it is."""
    found = []
    for (_, parts), places in names(one[0], other[0]):
        if len(set(parts)) == 1:
            to = parts[0]
            found.append((to, tuple(places.index((p, q)) for q in range(other[0][to]) for p in range(one[0][0]))))
        else:
            # Rooms that are not all one: that of the thing here is shown, each place in it by itself.
            to = parts[one[1][0][0]]
            found.append((to, tuple(places.index((p, min(q, other[0][parts[p]] - 1)))
                                    for q in range(other[0][to]) for p in range(one[0][0]))))
    return tuple(found)


class Together(LandCase):

    def test_what_is_put_together_is_a_land_as_told(self):
        tried = 0
        for one, other in PAIRS:
            for program in exchanges(one, other):
                found = land_together(one, other, program)
                self.assertEqual(found, spelled_together(one, other, program))
                self.assertEqual(need_land(found), found)
                self.assertTrue(plain_throughout(found))
                self.assertTrue(is_keeping(found, one, first_look(one, other)))
                self.assertTrue(is_keeping(found, other, second_look(one, other)))
                tried += 1
        self.assertGreater(tried, 50)

    def test_lands_of_several_rooms(self):
        for one, other in ((turning_land(2), apart_land(2, 2)), (turning_land(3), apart_land(2, 3)), (turning_land(2), apart_land(3, 3))):
            program = beside_one_another(one, other)
            if first_broken_exchange(one, other, program) is None:
                found = land_together(one, other, program)
                self.assertEqual(found, spelled_together(one, other, program))
                self.assertEqual(need_land(found), found)
                self.assertTrue(is_keeping(found, one, first_look(one, other)))
                self.assertTrue(is_keeping(found, other, second_look(one, other)))
            else:
                self.refused(BadExchange, {"place": first_broken_exchange(one, other, program)}, land_together, one, other, program)
        self.assertIsNone(first_broken_exchange(turning_land(2), apart_land(2, 2), beside_one_another(turning_land(2), apart_land(2, 2))))

    def test_lands_of_one_room_each_beside_the_other(self):
        # If each place is passed on as it is, one stands in both at once.
        for one, other in product(lands((2,)) + [turning_land(3)], repeat=2):
            program = beside_one_another(one, other)
            self.assertEqual(land_together(one, other, program), land_beside(one, other))
        for land in lands((1,), (2,), (2, 1), (1, 2), (2, 2)):
            self.assertEqual(land_together(land, END, still(land[0])), land)
            self.assertEqual(land_together(END, land, still(land[0])), land)

    def test_to_the_letter(self):
        turn, onward = ((2,), BACK), ((2,), ONWARD)
        program = ((0, (0, 2, 1, 3)),)
        self.assertEqual(land_together(turn, onward, program), (
            (4,), ((0, ((0, (0, 1, 2, 3)), (0, (1, 1, 3, 3)), (0, (2, 3, 0, 1)), (0, (3, 3, 1, 1)))),)))
        self.assertEqual((first_look(turn, onward), second_look(turn, onward)), (((0, (0, 2)),), ((0, (0, 1)),)))
        self.assertEqual(land_together(EMPTY, TWO, ()), EMPTY)

    def test_each_rule_of_the_exchange(self):
        turn = turning_land(2)
        for places in product(range(4), repeat=4):
            if places != (0, 2, 1, 3):
                self.refused(BadExchange, {"place": first_broken_exchange(turn, turn, ((0, places),))},
                             land_together, turn, turn, ((0, places),))

    def test_looks(self):
        for one, other in product(lands((), (1,), (2,), (1, 1), (2, 1), (1, 2)), repeat=2):
            whole = names(one[0], other[0])
            first = tuple((shape, tuple(places.index((p, Told(*other).here(part))) for p, part in enumerate(parts)))
                          for (shape, parts), places in whole)
            second = tuple((parts[Told(*one).here(shape)], tuple(
                places.index((Told(*one).here(shape), q)) for q in range(other[0][parts[Told(*one).here(shape)]])))
                for (shape, parts), places in whole)
            self.assertEqual((first_look(one, other), second_look(one, other)), (first, second))
            self.assertTrue(plain_throughout((first_look(one, other), second_look(one, other))))
        self.assertEqual((first_look(TWO, ((2,), BACK)), second_look(TWO, ((2,), BACK))), (((0, (0, 2)), (1, (0,))), ((0, (0, 1)), (0, (0, 1)))))

    def test_bounds_of_the_looks_are_those_of_the_one_way_round(self):
        six, two = turning_land(6), apart_land(2, 1)
        for function in (first_look, second_look):
            self.refused(TooGreat, {"most": 60}, function, six, two)
            self.assertEqual(len(function(two, six)), 2)
            self.refused(TooGreat, {"most": 12}, function, apart_land(2, 2), turning_land(7))
            self.refused(TooGreat, {"most": 60}, function, turning_land(7), apart_land(2, 2))
            for land in (apart_land(60, 12), blocks_land(60, 12)):
                self.assertEqual(len(self.quick(function, land, END)), 60)
                self.assertEqual(len(self.quick(function, END, land)), 60)
                self.quick(self.refused, TooGreat, {"most": 60}, function, land, land)

    def test_numbers_of_the_tests_own_kind(self):
        def numbers(value):
            return tuple(map(numbers, value)) if isinstance(value, tuple) else Number(value)
        turn = numbers(((2,), BACK))
        program = numbers(((0, (0, 2, 1, 3)),))
        for found in (need_exchange(turn, turn, program), all_exchanges(turn, turn), land_together(turn, turn, program),
                      first_look(turn, turn), second_look(turn, turn)):
            self.assertTrue(plain_throughout(found))


if __name__ == "__main__":
    unittest.main()
