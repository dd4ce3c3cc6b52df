"""[5], [7], [21], [27], [28] Standings: the thing here of each filling, and all fillings seen from its places."""

import unittest
from itertools import product

from holdfills.errors import BadHolder, BadProgram, BadStanding, NoRow, TooGreat
from holdfills.inside import fillings_out, put_into
from holdfills.programs import need_program
from holdfills.standings import look_all, look_here, need_land, need_standing, standing_by
from landed import BACK, GREAT, LandCase, NO_HOLDER, ONWARD, TWO_ROOMS
from landed import apart_land, blocks_land, first_broken, forms, seen_from, standings, turning
from raising import Case
from samples import MOST, Number, STRANGE, STRANGE_INTEGERS, STRANGE_TUPLES
from samples import fillings, lead, plain_throughout, programs, rows


class NeedStanding(Case):

    def check_all(self, holder, listed):
        """Check all that is listed, and return how many there are of each first broken rule."""
        found = {}
        for form in listed:
            broken = first_broken(holder, form)
            rule = None if broken is None else broken[0]
            found[rule] = found.get(rule, 0) + 1
            if broken is None:
                self.assertEqual(need_standing(holder, form), form)
            else:
                self.refused(BadStanding, {"place": broken}, need_standing, holder, form)
        return found

    def test_all_of_small_holders(self):
        for holder, count in (((), 1), ((1,), 1), ((2,), 4), ((1, 1), 1), ((2, 1), None), ((1, 1, 1), 1), ((1, 2), None)):
            found = self.check_all(holder, forms(holder))
            if count is not None:
                self.assertEqual(found[None], count)
            self.assertGreater(found[None], 0)

    def test_all_of_two_rooms_of_two_places(self):
        found = self.check_all((2, 2), forms((2, 2)))
        self.assertEqual(sorted(rule for rule in found if rule is not None), [0, 1, 2, 3])
        self.assertGreater(found[None], 16)

    def test_standings_of_three_places_are_the_monoids_of_three(self):
        keeping = []
        for here in range(3):
            ways = [[(0, tuple(range(3)))] if place == here else [(0, row) for row in rows(3, 3) if row[here] == place]
                    for place in range(3)]
            keeping += [((here, seen),) for seen in product(*ways)]
        found = self.check_all((3,), keeping)
        self.assertEqual(sorted(rule for rule in found if rule is not None), [4])
        self.assertEqual(found[None], 33)

    def test_the_example(self):
        both = [ONWARD, BACK] + [((1, ((0, (away, 0)), (0, (0, 1)))),) for away in (0, 1)]
        for standing in both:
            self.assertEqual(need_standing((2,), standing), standing)
        self.assertEqual(sorted(standings((2,))), sorted(both))
        self.assertEqual(need_standing((2, 1), TWO_ROOMS), TWO_ROOMS)

    def test_each_rule_alone(self):
        # Rooms that see one another all, each from one place: the whole of it, and a thing or two of it wrong.
        good = tuple((room, tuple((seen, tuple(range(3))) for seen in range(3))) for room in range(3))
        self.assertEqual(need_standing((3, 3, 3), good), good)

        def wrong(*changes):
            standing = [[here, [list(pair) for pair in seen]] for here, seen in good]
            for shape, place, change in changes:
                if place is None:
                    standing[shape][0] = change
                else:
                    standing[shape][1][place] = [change[0], change[1]]
            return tuple((here, tuple((there, tuple(beyond)) for there, beyond in seen)) for here, seen in standing)

        still = (0, 1, 2)
        told = [
            (wrong((1, None, 0)), (0, 1)), (wrong((1, None, 0), (2, None, 0)), (0, 1)), (wrong((2, None, 0)), (0, 2)),
            (wrong((0, 0, (2, still)), (2, 2, (0, still))), (0, 0)),
            (wrong((1, 1, (1, (0, 2, 1)))), (1, 1, 1)), (wrong((2, 2, (2, (1, 1, 2))), (1, 1, (1, (0, 1, 1)))), (1, 1, 2)),
            (wrong((2, 2, (2, (0, 1, 1)))), (1, 2, 2)),
            (wrong((0, 1, (1, (0, 2, 2)))), (2, 0, 1)), (wrong((2, 0, (0, (1, 1, 2))), (1, 2, (2, (0, 1, 0)))), (2, 1, 2)),
            # From a place of another room the place where this one is seen is another one.
            (wrong((0, 1, (1, (0, 1, 0)))), (3, 0, 1, 2)), (wrong((2, 0, (0, (0, 0, 2))), (1, 0, (0, (0, 2, 2)))), (3, 1, 0, 1)),
            (wrong((2, 1, (1, (2, 1, 2)))), (3, 2, 1, 0)),
        ]
        for standing, place in told:
            self.assertEqual(first_broken((3, 3, 3), standing), place)
            self.refused(BadStanding, {"place": place}, need_standing, (3, 3, 3), standing)

    def test_the_last_rule_alone(self):
        # Three places in one room that are no monoid: 1 and then 1 is 2, 2 and then 1 is 1, 1 and then 2 is 2.
        loose = (0, ((0, (0, 1, 2)), (0, (1, 2, 2)), (0, (2, 1, 2))))
        self.refused(BadStanding, {"place": (4, 0, 1, 1, 1)}, need_standing, (3,), (loose,))
        good = turning(3)
        two = (loose[0], tuple((1, beyond) for _, beyond in loose[1]))
        other = (good[0], tuple((1, beyond) for _, beyond in good[1]))
        self.assertEqual(need_standing((3, 3), (good, other)), (good, other))
        self.refused(BadStanding, {"place": (4, 1, 1, 1, 1)}, need_standing, (3, 3), (good, two))
        self.refused(BadStanding, {"place": (4, 0, 1, 1, 1)}, need_standing, (3, 3), (loose, two))
        self.refused(BadStanding, {"place": (4, 0, 1, 1, 1)}, need_standing, (3, 3), (loose, other))

    def test_a_lesser_rule_in_a_later_room_comes_first(self):
        loose = (0, ((0, (0, 1, 2)), (0, (1, 2, 2)), (0, (2, 1, 2))))
        for later, place in (((0, ((1, (0,)),)), (4, 0, 1, 1, 1)), ((0, ((0, (0, 0, 0)),)), (0, 1))):
            self.assertEqual(first_broken((3, 1), (loose, later)), place)
            self.refused(BadStanding, {"place": place}, need_standing, (3, 1), (loose, later))
        stay = (0, ((1, (1, 0)), (1, (1, 1))))
        self.refused(BadStanding, {"place": (1, 1, 0)}, need_standing, (3, 2), (loose, stay))
        away = (0, ((1, (0, 1)), (1, (0, 1))))
        self.refused(BadStanding, {"place": (2, 1, 1)}, need_standing, (3, 2), (loose, away))

    def test_the_form(self):
        good = ((0, ((0, (0, 1)), (0, (1, 0)))), (0, ((1, (0,)),)))
        self.assertEqual(need_standing((2, 1), good), good)
        for bad in STRANGE + STRANGE_INTEGERS + [(), good[:1], good + good[:1], list(good), dict(enumerate(good)), 2]:
            self.refused(BadStanding, {"place": ()}, need_standing, (2, 1), bad)
        for bad in STRANGE + STRANGE_TUPLES + [good]:
            self.refused(BadStanding, {"place": ()}, need_standing, (), bad)
        self.assertEqual(need_standing((), ()), ())
        there, rest = (0, (0, 1)), (0, (1, 0))
        wrong = [(), (0,), (0, (there,)), (0, (there, rest, rest)), (2, (there, rest)), (-1, (there, rest)),
                 (True, (there, rest)), (0.0, (there, rest)), (0, [there, rest]), [0, (there, rest)], (0, (there, rest), 0),
                 ((0,), (there, rest)), (0, there, rest), (0, {0: there, 1: rest}), (MOST, (there, rest))]
        pairs = [(), (0,), (0, (0,)), (0, (0, 1, 0)), (1, (0, 1)), (2, (0,)), (0, (0, 2)), (0, (0, -1)), (1, (2,)), (-1, (0, 1)),
                 (0, [0, 1]), [0, (0, 1)], (True, (0,)), (False, (0, 1)), (0, (0, True)), (0, (0.0, 1)), (0, ((0,), 1)),
                 (0, (0, MOST)), (0, (0, 1), 0), 0, "01"]
        wrong += [(0, (bad, rest)) for bad in pairs + STRANGE + STRANGE_TUPLES]
        wrong += [(0, (there, bad)) for bad in pairs + STRANGE + STRANGE_TUPLES]
        wrong += [(0, (there, (0, (1, value)))) for value in STRANGE + STRANGE_INTEGERS]
        wrong += [(value, (there, rest)) for value in STRANGE + STRANGE_INTEGERS] + [(0, value) for value in STRANGE]
        for bad in wrong + STRANGE + STRANGE_TUPLES:
            self.refused(BadStanding, {"place": (0,)}, need_standing, (2, 1), (bad, None))
            self.refused(BadStanding, {"place": (1,)}, need_standing, (1, 2), (((0, ((0, (0,)),))), bad))

    def test_the_form_comes_ahead_of_the_rules(self):
        # The first room breaks the rule 0, the second one has not the form.
        broken = (0, ((1, (0,)),))
        self.refused(BadStanding, {"place": (1,)}, need_standing, (1, 1), (broken, None))
        self.refused(BadStanding, {"place": (0, 0)}, need_standing, (1, 1), (broken, (0, ((1, (0,)),))))

    def test_a_shape_without_places_has_none(self):
        for holder in ((0,), (1, 0), (0, 1), (2, 0, 2)):
            shape = holder.index(0)
            good = tuple((0, tuple((number, tuple(range(size))) for _ in range(size))) for number, size in enumerate(holder))
            self.refused(BadStanding, {"place": (shape,)}, need_standing, holder, good)
            for value in ((0, ()), ((), ()), (None, ())):
                self.refused(BadStanding, {"place": (0,)}, need_standing, (0,), (value,))

    def test_what_is_no_holder(self):
        for bad in NO_HOLDER:
            self.refused(BadHolder, {"value": bad}, need_standing, bad, None)
            self.refused(BadHolder, {"value": bad}, need_land, (bad, None))
            self.refused(BadHolder, {"value": bad}, standing_by, bad, None, None)

    def test_only_plain_values_come_back(self):
        number = Number(0)
        passed = ((number, ((number, (number, Number(1))), (number, (Number(1), number)))),)
        for found in (need_standing((2,), passed), need_land(((Number(2),), passed)), look_here(((2,), passed)),
                      look_all(((2,), passed)),
                      standing_by((2,), ((number, (number,)),), ((number, (number, 1, 1, number)),))):
            self.assertTrue(plain_throughout(found))


class NeedLand(LandCase):

    def test_lands_are_returned(self):
        for holder in ((), (1,), (2,), (1, 1), (2, 1)):
            for standing in standings(holder):
                self.assertEqual(need_land((holder, standing)), (holder, standing))

    def test_the_errors_of_a_land(self):
        for function in (need_land, look_here, look_all):
            self.asks_for_a_land(function)

    def test_lands_at_the_bounds(self):
        _, good = apart_land(60, 12)
        self.assertEqual(self.quick(need_land, (GREAT, good)), (GREAT, good))
        self.assertEqual(self.quick(look_here, (GREAT, good)), ((0, (0,)),) * 60)
        self.refused(TooGreat, {"most": 60}, look_all, (GREAT, good))
        # The very last thing is wrong.
        last = good[59][1][11]
        wrong = good[:59] + ((0, good[59][1][:11] + ((last[0], last[1][:11] + (11,)),)),)
        self.assertEqual(first_broken(GREAT, wrong)[:2], (4, 59))
        self.refused(BadStanding, {"place": first_broken(GREAT, wrong)}, need_land, (GREAT, wrong))
        _, blocks = blocks_land(60, 12)
        self.assertEqual(self.quick(need_land, (GREAT, blocks)), (GREAT, blocks))


class Looking(Case):

    def lands(self):
        for holder in ((), (1,), (2,), (1, 1), (2, 1), (1, 2), (2, 2)):
            for standing in standings(holder):
                yield holder, standing

    def test_the_thing_here(self):
        for holder, standing in self.lands():
            program = look_here((holder, standing))
            self.assertEqual(need_program(holder, (1,), program), program)
            for shape, things in fillings(holder, 3):
                self.assertEqual(lead(program, (shape, things)), (0, (things[standing[shape][0]],)))

    def test_all_that_is_seen(self):
        for holder, standing in self.lands():
            program = look_all((holder, standing))
            self.assertEqual(need_program(holder, put_into(holder, holder), program), program)
            for filling in fillings(holder, 2):
                seen = tuple(seen_from(standing, filling, place) for place in range(len(filling[1])))
                self.assertEqual(fillings_out(holder, holder, lead(program, filling)), (filling[0], seen))

    def test_to_the_letter(self):
        self.assertEqual(look_here(((2,), BACK)), ((0, (0,)),))
        self.assertEqual(look_all(((2,), BACK)), ((0, (0, 1, 1, 0)),))
        self.assertEqual(look_all(((2,), ONWARD)), ((0, (0, 1, 1, 1)),))
        self.assertEqual(look_all(((2, 1), TWO_ROOMS)), ((1, (0, 1, 1)), (5, (0,))))
        self.assertEqual((look_here(((), ())), look_all(((), ()))), ((), ()))

    def test_bounds_of_what_is_put_into_itself(self):
        ones = tuple((0, ((room, (0,)),)) for room in range(7))
        self.assertEqual(len(look_all(((1,) * 7, ones))), 7)
        ones = tuple((0, ((room, (0,)),)) for room in range(8))
        self.refused(TooGreat, {"most": 60}, look_all, ((1,) * 8, ones))
        self.assertEqual(look_all(((3,), (turning(3),))), ((0, (0, 1, 2, 1, 2, 0, 2, 0, 1)),))
        self.refused(TooGreat, {"most": 12}, look_all, ((4,), (turning(4),)))
        self.refused(TooGreat, {"most": 60}, look_all, ((12,) * 2, tuple(
            (0, tuple((room, seen[1]) for seen in turning(12)[1])) for room in range(2))))
        self.assertEqual(look_here(((4,), (turning(4),))), ((0, (0,)),))


class StandingBy(Case):

    def test_the_standing_of_which_they_are_the_looks(self):
        for holder in ((), (1,), (2,), (1, 1), (2, 1), (1, 2), (2, 2)):
            for standing in standings(holder):
                land = (holder, standing)
                self.assertEqual(standing_by(holder, look_here(land), look_all(land)), standing)

    def rules_kept(self, holder, first, second, many):
        """Tell whether the three rules of [28] are kept at all fillings by so many things."""
        def here(filling):
            to, places = first[filling[0]]
            return filling[1][places[0]]

        def seen(filling):
            # The things may be fillings, and fillings of fillings: what is put into one another is taken out by parts.
            number, things = lead(second, filling)
            name, parts = self.parts[number]
            found, start = [], 0
            for part in parts:
                found.append((part, things[start:start + holder[part]]))
                start += holder[part]
            return name, tuple(found)

        for filling in fillings(holder, many):
            outer = seen(filling)
            if here(outer) != filling:
                return False
            if (outer[0], tuple(here(part) for part in outer[1])) != filling:
                return False
            if seen(outer) != (outer[0], tuple(seen(part) for part in outer[1])):
                return False
        return True

    def test_there_is_one_exactly_if_three_rules_are_kept_for_all_sets(self):
        for holder, count in (((), 1), ((1,), 1), ((2,), 4), ((1, 1), 1), ((2, 1), 3), ((1, 1, 1), 1)):
            self.parts = [(shape, parts) for shape, size in enumerate(holder) for parts in rows(len(holder), size)]
            found = []
            for first in programs(holder, (1,)):
                for second in programs(holder, put_into(holder, holder)):
                    # Own fillings show whatever programs do.
                    if self.rules_kept(holder, first, second, max(holder, default=0)):
                        standing = standing_by(holder, first, second)
                        self.assertEqual((look_here((holder, standing)), look_all((holder, standing))), (first, second))
                        found.append(standing)
                    else:
                        self.refused(NoRow, {}, standing_by, holder, first, second)
            self.assertEqual(sorted(found), sorted(standings(holder)))
            self.assertEqual(len(found), len(standings(holder)))
            if holder != (2, 1):
                self.assertEqual(len(found), count)

    def test_another_place_here(self):
        land = ((2,), BACK)
        self.refused(NoRow, {}, standing_by, (2,), ((0, (1,)),), look_all(land))
        self.assertEqual(standing_by((2,), ((0, (0,)),), look_all(land)), BACK)
        self.refused(NoRow, {}, standing_by, (2,), ((0, (0,)),), ((0, (0, 0, 1, 1)),))
        land = ((2, 1), TWO_ROOMS)
        self.refused(NoRow, {}, standing_by, (2, 1), ((0, (1,)), (0, (0,))), look_all(land))
        self.refused(NoRow, {}, standing_by, (3,), ((0, (1,)),), look_all(((3,), (turning(3),))))

    def test_a_shape_that_is_led_to_another_one(self):
        self.refused(NoRow, {}, standing_by, (1, 1), ((0, (0,)), (0, (0,))), ((2, (0,)), (1, (0,))))
        self.refused(NoRow, {}, standing_by, (1, 1), ((0, (0,)), (0, (0,))), ((0, (0,)), (0, (0,))))
        self.assertEqual(standing_by((1, 1), ((0, (0,)), (0, (0,))), ((0, (0,)), (3, (0,)))),
                         ((0, ((0, (0,)),)), (0, ((1, (0,)),))))

    def test_the_order_of_the_errors(self):
        good = ((0, (0,)),)
        for bad in STRANGE + STRANGE_INTEGERS + [(), good * 2, list(good)]:
            self.refused(BadProgram, {"place": ()}, standing_by, (1,), bad, None)
            self.refused(BadProgram, {"place": ()}, standing_by, (12,), bad, None)
            self.refused(BadProgram, {"place": ()}, standing_by, (1,), good, bad)
        for bad in STRANGE + STRANGE_TUPLES + [(0, (1,)), (1, (0,)), (0, ()), (0, (0, 0))]:
            self.refused(BadProgram, {"place": (0,)}, standing_by, (1,), (bad,), None)
            self.refused(BadProgram, {"place": (0,)}, standing_by, (1,), good, (bad,))
        # A shape without places has no thing here.
        self.refused(BadProgram, {"place": (1,)}, standing_by, (1, 0), good + ((0, ()),), None)
        self.assertEqual(standing_by((), (), ()), ())

    def test_bounds_behind_the_first_program_ahead_of_the_second_one(self):
        for holder, most in (((1,) * 8, 60), ((4,), 12), ((12,) * 8, 60), (GREAT, 60), ((12,), 12)):
            first = ((0, (0,)),) * len(holder)
            for second in (None, (), ((0, (0,)),), ((0, (0,) * 16),)):
                self.refused(TooGreat, {"most": most}, standing_by, holder, first, second)
            self.refused(BadProgram, {"place": ()}, standing_by, holder, None, None)
            self.refused(BadProgram, {"place": (0,)}, standing_by, holder, (None,) * len(holder), None)
        self.assertEqual(standing_by((3,), ((0, (0,)),), ((0, (0, 1, 2, 1, 2, 0, 2, 0, 1)),)), (turning(3),))

    def test_no_noticeable_time(self):
        holder = (1,) * 7
        first, second = ((0, (0,)),) * 7, tuple((room * 8, (0,)) for room in range(7))
        standing = tuple((0, ((room, (0,)),)) for room in range(7))
        self.assertEqual(self.quick(standing_by, holder, first, second), standing)
        self.assertEqual(self.quick(look_all, (holder, standing)), second)


if __name__ == "__main__":
    unittest.main()
