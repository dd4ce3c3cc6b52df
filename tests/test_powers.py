"""[7], [21], [25], [26] Holders of programs: of those from products, and of those from holders beside one another."""

import unittest
from itertools import product
from math import prod

import spelled
from holdfills.deeds import beside, both_beside, both_multiplied, multiplied
from holdfills.errors import BadHolder, BadProgram, TooGreat
from holdfills.holders import count_fillings
from holdfills.powers import applied, beside_holder, fed, fed_beside, program_holder, unfed, unfed_beside
from holdfills.programs import count_programs, done, need_program, one_behind, still
from raising import Case
from samples import Number, SMALL_HOLDERS, STRANGE, STRANGE_INTEGERS, STRANGE_TUPLES
from samples import fillings, lead, plain_throughout, programs

GREAT = (12,) * 60
WRONG = STRANGE + STRANGE_TUPLES + STRANGE_INTEGERS + [(13,), (-1,), (0,) * 61, [1], (1, None), ((1,),), 0, "12"]
NO_PROGRAM = STRANGE + STRANGE_INTEGERS + [[(0, ())], {0: (0, ())}]
FEW = [(), (0,), (1,), (2,), (0, 1), (1, 1)]
TRIPLES = list(product(FEW, FEW, FEW))


def power_of(one, other):
    """Return the holder of programs, spelled out apart from the program, or None if it is too great."""
    if prod(sum((size + 1) ** width for width in other) for size in one) > 60:
        return None
    whole = spelled.program_holder(one, other)
    return whole if max(spelled.sizes(whole), default=0) <= 12 else None


def beside_power_of(one, other):
    """Return what `beside_holder` should return, spelled out, or None if it is too great."""
    if prod(sum(size ** width for width in other) for size in one) > 60:
        return None
    whole = spelled.beside_holder(one, other)
    return whole if max(spelled.sizes(whole), default=0) <= 12 else None


class ProgramHolder(Case):

    def test_shapes_and_places_as_told(self):
        for one, other in product(SMALL_HOLDERS, SMALL_HOLDERS):
            expected = power_of(one, other)
            if expected is not None:
                found = program_holder(one, other)
                self.assertEqual(found, spelled.sizes(expected))
                self.assertTrue(plain_throughout(found))

    def test_the_example(self):
        self.assertEqual(program_holder((1,), (1,)), (1, 0))
        self.assertEqual([name for name, _ in spelled.program_holder((1,), (1,))], [((0, (-1,)),), ((0, (0,)),)])

    def test_to_the_letter(self):
        self.assertEqual(program_holder((0,), (2, 1)), (2, 1))
        self.assertEqual(program_holder((2,), (1, 0)), (1, 0, 0, 0))
        self.assertEqual(program_holder((1, 0), (1,)), (2, 1))

    def test_how_many_fillings(self):
        for one, other in product(SMALL_HOLDERS, SMALL_HOLDERS):
            if power_of(one, other) is not None:
                for many in (0, 1, 2, 5):
                    expected = prod(count_fillings(other, many + size) for size in one)
                    self.assertEqual(count_fillings(program_holder(one, other), many), expected)

    def test_the_edges(self):
        for holder in ((), (0,), (2, 0), GREAT):
            self.assertEqual(program_holder((), holder), (0,))
            self.assertEqual(program_holder((0,), holder), holder)
        for holder in ((0,), (2, 0), GREAT):
            self.assertEqual(program_holder(holder, ()), ())
            self.assertEqual(program_holder(holder, (0,)), (0,))

    def test_60_shapes_and_one_more(self):
        self.assertEqual(program_holder((0,), GREAT), GREAT)
        self.assertEqual(len(program_holder((0, 0), (0,) * 5 + (2, 2))), 49)
        self.assertEqual(len(program_holder((1,), (5, 4, 3, 2))), 60)
        self.refused(TooGreat, {"most": 60}, program_holder, (1,), (5, 4, 3, 2, 0))
        self.refused(TooGreat, {"most": 60}, program_holder, (0, 0), (0,) * 8)
        self.refused(TooGreat, {"most": 60}, program_holder, (7,), (2,))

    def test_12_places_and_one_more(self):
        self.assertEqual(program_holder((0, 0), (6,)), (12,))
        self.assertEqual(program_holder((0,) * 12, (1,)), (12,))
        for one, other in (((0, 0), (7,)), ((0,) * 13, (1,)), ((0, 0), (6, 7)), ((0,) * 60, (1,))):
            self.refused(TooGreat, {"most": 12}, program_holder, one, other)

    def test_both_at_once_and_far_beyond(self):
        for one, other in (((0, 0), (7,) * 8), ((1, 1, 1), (12,)), (GREAT, GREAT), (GREAT, (1,)), ((12,), GREAT)):
            self.quick(self.refused, TooGreat, {"most": 60}, program_holder, one, other)
        self.quick(self.refused, TooGreat, {"most": 60}, beside_holder, GREAT, GREAT)


class BesideHolder(Case):

    def test_shapes_and_places_as_told(self):
        for one, other in product(SMALL_HOLDERS, SMALL_HOLDERS):
            expected = beside_power_of(one, other)
            if expected is not None:
                found = beside_holder(one, other)
                self.assertEqual(found, spelled.sizes(expected))
                self.assertTrue(plain_throughout(found))

    def test_the_example(self):
        self.assertEqual(beside_holder((1,), (1,)), (1,))

    def test_to_the_letter(self):
        self.assertEqual(beside_holder((2,), (1, 0)), (1, 1, 0))
        self.assertEqual(beside_holder((1, 1), (2, 0)), (4, 2, 2, 0))
        self.assertEqual(beside_holder((0,), (2, 0, 1, 0)), (0, 0))

    def test_its_shapes_are_as_many_as_programs(self):
        for one, other in product(SMALL_HOLDERS, SMALL_HOLDERS):
            if beside_power_of(one, other) is not None:
                self.assertEqual(len(beside_holder(one, other)), count_programs(one, other))

    def test_the_edges(self):
        for holder in ((), (0,), (2, 0), GREAT):
            self.assertEqual(beside_holder((), holder), (0,))
            self.assertEqual(beside_holder((1,), holder), holder)
        for holder in ((0,), (2, 0), GREAT):
            self.assertEqual(beside_holder(holder, ()), ())
            self.assertEqual(beside_holder(holder, (0,)), (0,))
        self.assertEqual(beside_holder((12,) * 59 + (0,), GREAT), ())
        self.assertEqual(beside_holder((0,) + GREAT[1:], GREAT), ())

    def test_60_shapes_and_one_more(self):
        self.assertEqual(len(beside_holder((2,), (5, 4, 3, 2))), 60)
        self.refused(TooGreat, {"most": 60}, beside_holder, (2,), (5, 4, 3, 2, 0))
        self.refused(TooGreat, {"most": 60}, beside_holder, (8,), (2,))
        self.refused(TooGreat, {"most": 60}, beside_holder, (1, 1), (0,) * 8)

    def test_12_places_and_one_more(self):
        self.assertEqual(beside_holder((1, 1), (6,)), (12,))
        self.assertEqual(beside_holder((1,) * 12, (1,)), (12,))
        for one, other in (((1, 1), (7,)), ((1,) * 13, (1,)), ((1, 1), (6, 7)), ((1,) * 60, (12,))):
            self.refused(TooGreat, {"most": 12}, beside_holder, one, other)
        self.refused(TooGreat, {"most": 60}, beside_holder, (1, 1), (7,) * 8)


class Fed(Case):

    def spelled_fed(self, holder, one, other, program):
        """Return what `fed` should return, by the names of shapes and places."""
        both, power = spelled.multiplied(holder, one), power_of(one, other)

        def lead_name(shape):
            name, where = [], {}
            for room in range(len(one)):
                number = spelled.number_of(both, (shape, room))
                to, places = program[number]
                marks = []
                for at, place in enumerate(places):
                    side, told = both[number][1][place]
                    marks.append(told if side == 1 else -1)
                    if side == 0:
                        where[(room, at)] = told
                name.append((to, tuple(marks)))
            return tuple(name), where.get

        return spelled.program_between(spelled.plain(holder), power, lead_name)

    def test_as_told(self):
        for holder, one, other in TRIPLES:
            if power_of(one, other) is not None:
                for program in programs(multiplied(holder, one), other)[:60]:
                    self.assertEqual(fed(holder, one, other, program), self.spelled_fed(holder, one, other, program))

    def test_one_to_one(self):
        checked = 0
        for holder, one, other in TRIPLES:
            power = power_of(one, other)
            if power is not None and count_programs(multiplied(holder, one), other) <= 300:
                here, there = programs(multiplied(holder, one), other), programs(holder, spelled.sizes(power))
                found = [fed(holder, one, other, program) for program in here]
                self.assertEqual(sorted(found), there)
                for program, to in zip(here, found):
                    self.assertEqual(unfed(holder, one, other, to), program)
                checked += 1
        self.assertGreater(checked, 150)

    def test_what_is_fed_and_then_applied(self):
        for holder, one, other in TRIPLES:
            power = power_of(one, other)
            if power is None or len(power) * len(one) > 60:
                continue
            power = spelled.sizes(power)
            source, middle = multiplied(holder, one), multiplied(power, one)
            for program in programs(source, other)[::7]:
                there = both_multiplied((holder, power, one, one), fed(holder, one, other, program), still(one))
                self.assertEqual(one_behind(source, middle, other, there, applied(one, other)), program)

    def test_to_the_letter(self):
        # A thing of the shape and one of the other: which of them is taken.
        self.assertEqual(fed((1,), (1,), (1,), ((0, (0,)),)), ((0, (0,)),))
        self.assertEqual(fed((1,), (1,), (1,), ((0, (1,)),)), ((1, ()),))
        self.assertEqual(unfed((1,), (1,), (1,), ((0, (0,)),)), ((0, (0,)),))
        self.assertEqual(unfed((1,), (1,), (1,), ((1, ()),)), ((0, (1,)),))
        self.assertEqual(applied((1,), (1,)), ((0, (0,)), (0, (0,))))
        self.assertEqual(fed((2,), (1, 0), (2,), ((0, (2, 1)), (0, (1, 0)))), ((2, (1, 1, 0)),))
        self.assertEqual(unfed((2,), (1, 0), (2,), ((2, (1, 1, 0)),)), ((0, (2, 1)), (0, (1, 0))))

    def test_applied_is_unfed_of_what_changes_nothing(self):
        for one, other in product(FEW, FEW):
            power = power_of(one, other)
            if power is not None and len(power) * len(one) <= 60:
                power = spelled.sizes(power)
                found = applied(one, other)
                self.assertEqual(need_program(multiplied(power, one), other, found), found)
                self.assertEqual(found, unfed(power, one, other, still(power)))
                self.assertEqual(fed(power, one, other, found), still(power))

    def test_applied_does_what_its_shape_tells(self):
        for one, other in product(FEW, FEW):
            power = power_of(one, other)
            if power is None or len(power) * len(one) > 60:
                continue
            program = applied(one, other)
            for number, (name, places) in enumerate(power):
                for room, size in enumerate(one):
                    taken, things = tuple(range(100, 100 + len(places))), tuple(range(size))
                    filling = (number * len(one) + room, taken + things)
                    to, marks = name[room]
                    expected = tuple(things[mark] if mark >= 0 else taken[places.index((room, at))]
                                     for at, mark in enumerate(marks))
                    self.assertEqual(lead(program, filling), (to, expected))

    def test_the_edges(self):
        self.assertEqual(fed((), (1,), (2,), ()), ())
        self.assertEqual(unfed((), (1,), (2,), ()), ())
        self.assertEqual(fed((2, 0), (), (1,), ()), ((0, ()), (0, ())))
        self.assertEqual(unfed((2, 0), (), (1,), ((0, ()), (0, ()))), ())
        self.assertEqual(applied((), GREAT), ())
        self.assertEqual(applied((0,), GREAT), still(GREAT))
        self.assertEqual(applied(GREAT[:1], ()), ())
        self.assertEqual(fed(GREAT, (0,), GREAT, still(GREAT)), still(GREAT))
        self.assertEqual(unfed(GREAT, (0,), GREAT, still(GREAT)), still(GREAT))


class FedBeside(Case):

    def spelled_fed(self, holder, one, other, program):
        """Return what `fed_beside` should return, by the names of shapes and places."""
        both, power = spelled.beside(holder, one), beside_power_of(one, other)

        def lead_name(shape):
            name, where = [], {}
            for room in range(len(one)):
                number = spelled.number_of(both, (shape, room))
                to, places = program[number]
                pairs = [both[number][1][place] for place in places]
                name.append((to, tuple(q for _, q in pairs)))
                where.update({(room, at): p for at, (p, _) in enumerate(pairs)})
            return tuple(name), where.get

        return spelled.program_between(spelled.plain(holder), power, lead_name)

    def test_as_told(self):
        for holder, one, other in TRIPLES:
            if beside_power_of(one, other) is not None:
                for program in programs(beside(holder, one), other)[:60]:
                    found = fed_beside(holder, one, other, program)
                    self.assertEqual(found, self.spelled_fed(holder, one, other, program))

    def test_one_to_one(self):
        checked = 0
        for holder, one, other in TRIPLES:
            power = beside_power_of(one, other)
            if power is not None and count_programs(beside(holder, one), other) <= 300:
                here, there = programs(beside(holder, one), other), programs(holder, spelled.sizes(power))
                found = [fed_beside(holder, one, other, program) for program in here]
                self.assertEqual(sorted(found), there)
                for program, to in zip(here, found):
                    self.assertEqual(unfed_beside(holder, one, other, to), program)
                checked += 1
        self.assertGreater(checked, 150)

    def test_what_is_fed_and_then_done(self):
        for holder, one, other in TRIPLES:
            power = beside_power_of(one, other)
            if power is None or len(power) * len(one) > 60:
                continue
            power = spelled.sizes(power)
            act = unfed_beside(power, one, other, still(power))
            source, middle = beside(holder, one), beside(power, one)
            for program in programs(source, other)[::7]:
                there = both_beside((holder, power, one, one), fed_beside(holder, one, other, program), still(one))
                self.assertEqual(one_behind(source, middle, other, there, act), program)

    def test_to_the_letter(self):
        self.assertEqual(fed_beside((1,), (1,), (1,), ((0, (0,)),)), ((0, (0,)),))
        # Of two rows of three things the first of the second row and the last of the first one.
        self.assertEqual(fed_beside((2,), (3,), (2,), ((0, (3, 2)),)), ((2, (1, 0)),))
        self.assertEqual(unfed_beside((2,), (3,), (2,), ((2, (1, 0)),)), ((0, (3, 2)),))
        self.assertEqual(done((6,), (2,), ((0, (3, 2)),), (0, (1, 2, 3, 4, 5, 6))), (0, (4, 3)))

    def test_the_edges(self):
        self.assertEqual(fed_beside((), (1,), (2,), ()), ())
        self.assertEqual(unfed_beside((), (1,), (2,), ()), ())
        self.assertEqual(fed_beside((2, 0), (), (1,), ()), ((0, ()), (0, ())))
        self.assertEqual(unfed_beside((2, 0), (), (1,), ((0, ()), (0, ()))), ())
        self.assertEqual(fed_beside((3,), (0,), (0, 2), ((0, ()),)), ((0, ()),))
        self.assertEqual(unfed_beside((3,), (0,), (0, 2), ((0, ()),)), ((0, ()),))
        self.assertEqual(fed_beside(GREAT, (1,), GREAT, still(GREAT)), still(GREAT))
        self.assertEqual(unfed_beside(GREAT, (1,), GREAT, still(GREAT)), still(GREAT))


class Orders(Case):

    def test_holders_first(self):
        for bad in WRONG:
            for function in (program_holder, beside_holder, applied):
                self.refused(BadHolder, {"value": bad}, function, bad, 13)
                self.refused(BadHolder, {"value": bad}, function, GREAT, bad)
            for function in (fed, unfed, fed_beside, unfed_beside):
                self.refused(BadHolder, {"value": bad}, function, bad, 13, 13, None)
                self.refused(BadHolder, {"value": bad}, function, GREAT, bad, 13, None)
                self.refused(BadHolder, {"value": bad}, function, GREAT, GREAT, bad, None)

    def test_wrong_programs(self):
        for function in (fed, unfed, fed_beside, unfed_beside):
            for bad in NO_PROGRAM + [(), ((0, (0,)),) * 3]:
                self.refused(BadProgram, {"place": ()}, function, (1, 1), (1,), (1,), bad)
            for bad in STRANGE + STRANGE_TUPLES + [(0, (2,)), (2, (0,)), (0, (0, 0)), (0, (-1,))]:
                self.refused(BadProgram, {"place": (0,)}, function, (1, 1), (1,), (1,), (bad, None))
                self.refused(BadProgram, {"place": (1,)}, function, (1, 1), (1,), (1,), ((0, (0,)), bad))

    def test_programs_are_from_and_to_what_is_made(self):
        # From the product of (1,) and (2,), which is (3,), or to the holder of programs.
        self.assertEqual(fed((1,), (2,), (1,), ((0, (2,)),)), ((2, ()),))
        self.refused(BadProgram, {"place": (0,)}, fed, (1,), (2,), (1,), ((0, (3,)),))
        self.assertEqual(unfed((1,), (2,), (1,), ((2, ()),)), ((0, (2,)),))
        self.refused(BadProgram, {"place": (0,)}, unfed, (1,), (2,), (1,), ((3, ()),))
        self.refused(BadProgram, {"place": (0,)}, unfed, (1,), (2,), (1,), ((2, (0,)),))
        self.assertEqual(fed_beside((2,), (2,), (1,), ((0, (3,)),)), ((1, (1,)),))
        self.refused(BadProgram, {"place": (0,)}, fed_beside, (2,), (2,), (1,), ((0, (4,)),))
        self.assertEqual(unfed_beside((2,), (2,), (1,), ((1, (1,)),)), ((0, (3,)),))
        self.refused(BadProgram, {"place": (0,)}, unfed_beside, (2,), (2,), (1,), ((2, (1,)),))

    def test_what_the_program_is_from_or_to_comes_ahead_of_it(self):
        for program in (None, (), ((0, ()),), 0):
            for holder, one, most in (((0,) * 8, (0,) * 8, 60), ((6,), (7,), 12), ((7,) * 8, (7,) * 8, 60)):
                self.refused(TooGreat, {"most": most}, fed, holder, one, (0,), program)
            for holder, one, most in (((0,) * 8, (0,) * 8, 60), ((4,), (4,), 12), ((4,) * 8, (4,) * 8, 60)):
                self.refused(TooGreat, {"most": most}, fed_beside, holder, one, (0,), program)
            for one, other, most in (((7,), (2,), 60), ((0, 0), (7,), 12), ((0, 0), (7,) * 8, 60)):
                self.refused(TooGreat, {"most": most}, unfed, (1,), one, other, program)
            for one, other, most in (((8,), (2,), 60), ((1, 1), (7,), 12), ((1, 1), (7,) * 8, 60)):
                self.refused(TooGreat, {"most": most}, unfed_beside, (1,), one, other, program)

    def test_the_other_made_holder_comes_behind_it(self):
        for one, other, most in (((7,), (2,), 60), ((0, 0), (7,), 12), ((0, 0), (7,) * 8, 60)):
            self.refused(TooGreat, {"most": most}, fed, (), one, other, ())
            program = ((0, (0,) * other[0]),) * len(one)
            self.refused(TooGreat, {"most": most}, fed, (1,), one, other, program)
            self.refused(BadProgram, {"place": ()}, fed, (1,), one, other, None)
            self.refused(BadProgram, {"place": (0,)}, fed, (1,), one, other, (None,) * len(one))
        for one, other, most in (((8,), (2,), 60), ((1, 1), (7,), 12), ((1, 1), (7,) * 8, 60)):
            self.refused(TooGreat, {"most": most}, fed_beside, (), one, other, ())
            program = ((0, (0,) * other[0]),) * len(one)
            self.refused(TooGreat, {"most": most}, fed_beside, (1,), one, other, program)
            self.refused(BadProgram, {"place": ()}, fed_beside, (1,), one, other, None)
            self.refused(BadProgram, {"place": (0,)}, fed_beside, (1,), one, other, (None,) * len(one))
        for holder, one, most in (((0,) * 8, (0,) * 8, 60), ((6,), (7,), 12), ((7,) * 8, (7,) * 8, 60)):
            program = ((0, ()),) * len(holder)
            self.refused(TooGreat, {"most": most}, unfed, holder, one, (0,), program)
            self.refused(BadProgram, {"place": ()}, unfed, holder, one, (0,), None)
            self.refused(BadProgram, {"place": (0,)}, unfed, holder, one, (0,), (None,) * len(holder))
        for holder, one, most in (((0,) * 8, (0,) * 8, 60), ((4,), (4,), 12), ((4,) * 8, (4,) * 8, 60)):
            program = ((0, ()),) * len(holder)
            self.refused(TooGreat, {"most": most}, unfed_beside, holder, one, (0,), program)
            self.refused(BadProgram, {"place": ()}, unfed_beside, holder, one, (0,), None)
            self.refused(BadProgram, {"place": (0,)}, unfed_beside, holder, one, (0,), (None,) * len(holder))

    def test_both_too_great(self):
        # The one of which the program is, whether it is from it or to it, comes first.
        holder, one, other = (0,) * 31, (0, 0), (7,)
        self.refused(TooGreat, {"most": 60}, fed, holder, one, other, None)
        self.refused(TooGreat, {"most": 12}, unfed, holder, one, other, None)
        holder, one, other = (12,), (1, 0, 0), (4,) * 4
        self.refused(TooGreat, {"most": 12}, fed, holder, one, other, None)
        self.refused(TooGreat, {"most": 60}, unfed, holder, one, other, None)
        holder, one, other = (0,) * 31, (1, 1), (7,)
        self.refused(TooGreat, {"most": 60}, fed_beside, holder, one, other, None)
        self.refused(TooGreat, {"most": 12}, unfed_beside, holder, one, other, None)
        holder, one, other = (7,), (2, 2), (3,)
        self.refused(TooGreat, {"most": 12}, fed_beside, holder, one, other, None)
        self.refused(TooGreat, {"most": 60}, unfed_beside, holder, one, other, None)

    def test_bounds_of_applied(self):
        # The holder of programs first, then its product with `one`.
        for one, other, most in (((7,), (2,), 60), ((0, 0), (7,), 12), ((0, 0), (7,) * 8, 60), ((0, 1), (5,), 60),
                                 ((0,) * 5 + (1,), (2,), 12), (GREAT, GREAT, 60)):
            self.refused(TooGreat, {"most": most}, applied, one, other)
        self.assertEqual((len(program_holder((0, 1), (5,))), max(program_holder((0,) * 5 + (1,), (2,)))), (32, 12))

    def test_only_plain_values_come_back(self):
        one, zero = (Number(1),), Number(0)
        program = ((zero, (zero,)),)
        for function in (program_holder, beside_holder, applied):
            self.assertTrue(plain_throughout(function(one, one)))
        for function in (fed, unfed, fed_beside, unfed_beside):
            self.assertTrue(plain_throughout(function(one, one, one, program)))


class Time(Case):

    def test_at_the_bounds(self):
        holder, one, other = (6,) * 10, (0,) * 6, (2, 0)
        program = tuple((0, (number % 6, 5)) if number % 3 else (1, ()) for number in range(60))
        power = self.quick(program_holder, (0,) * 5, other)
        self.assertEqual(len(power), 32)
        self.refused(TooGreat, {"most": 60}, fed, holder, one, other, program)
        there = self.quick(fed, holder, one[:5], other, program[:50])
        self.assertEqual(self.quick(unfed, holder, one[:5], other, there), program[:50])
        self.assertEqual(len(self.quick(applied, (1,), (5, 4, 3, 2))), 60)
        self.assertEqual(len(self.quick(beside_holder, (2,), (5, 4, 3, 2))), 60)
        program = tuple((3, (number % 12, 11 - number % 12)) for number in range(60))
        there = self.quick(fed_beside, (6,) * 60, (2,), (5, 4, 3, 2), program)
        self.assertEqual(self.quick(unfed_beside, (6,) * 60, (2,), (5, 4, 3, 2), there), program)
        program = tuple((3, (number % 12, 11 - number % 12)) for number in range(60))
        there = self.quick(fed, (11,) * 60, (1,), (5, 4, 3, 2), program)
        self.assertEqual(self.quick(unfed, (11,) * 60, (1,), (5, 4, 3, 2), there), program)

    def test_fillings_by_programs(self):
        # A filling of the holder of programs by N things is a program from `one` that may use these, too.
        for one, other in product(FEW, FEW):
            power = power_of(one, other)
            if power is not None and one:
                found = set()
                for name, things in spelled.fillings(power, 2):
                    told = tuple((to, tuple(("own", mark) if mark >= 0 else things[(room, at)] for at, mark in enumerate(marks)))
                                 for room, (to, marks) in enumerate(name))
                    found.add(told)
                self.assertEqual(len(found), count_fillings(program_holder(one, other), 2))
                self.assertEqual(len(found), prod(len(fillings(other, 2 + size)) for size in one))


if __name__ == "__main__":
    unittest.main()
