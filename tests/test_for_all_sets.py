"""[6], [7], [11] What holds FOR ALL sets: telling apart, one to one, onto, and the way back."""

import unittest

from holdfills.errors import BadHolder, BadProgram, NoRow
from holdfills.holders import plain_form
from holdfills.programs import back, is_apart, is_one_to_one, is_onto, one_behind, still, told_apart
from raising import Case
from samples import MOST, STRANGE, STRANGE_INTEGERS, STRANGE_TUPLES, TINY_HOLDERS, fillings, lead, plain_throughout
from samples import programs

TURN = ((0, (1, 0)),)
DOUBLE = ((0, (0, 0)),)
KEEP = ((1, (1,)),)
HERE, GOAL = (2,), (2, 1)


def all_triples():
    """Return the small holders and goals with each program between them."""
    return [(holder, goal, program)
            for holder in TINY_HOLDERS for goal in TINY_HOLDERS for program in programs(holder, goal)]


def unlike(filling):
    return len(set(filling[1]))


class ToldApart(Case):

    def test_the_example_of_11(self):
        self.assertEqual(told_apart(HERE, GOAL, TURN, DOUBLE), (0, (0, 1)))
        self.assertEqual(told_apart(HERE, GOAL, TURN, KEEP), (0, (0, 0)))

    def test_by_as_few_unlike_things_as_can_be(self):
        few = [(0,), (1,), (2,), (0, 1), (1, 1), (2, 1), (1, 0, 1)]
        for holder in few:
            for goal in few:
                listed = programs(holder, goal)
                for one in listed:
                    for other in listed:
                        self.check_pair(holder, goal, one, other)

    def check_pair(self, holder, goal, one, other):
        if one == other:
            self.refused(NoRow, {}, told_apart, holder, goal, one, other)
            return
        found = told_apart(holder, goal, one, other)
        self.assertTrue(plain_throughout(found))
        self.assertNotEqual(lead(one, found), lead(other, found))
        self.assertTrue(is_apart(holder, goal, one, other, found))
        parting = [filling for filling in fillings(holder, 2) if lead(one, filling) != lead(other, filling)]
        self.assertEqual(unlike(found), min(unlike(filling) for filling in parting))

    def test_a_later_shape_may_need_fewer(self):
        holder, goal = (2, 1, 0), (2, 0, 0)
        one = ((0, (0, 1)), (1, ()), (1, ()))
        other = ((0, (1, 0)), (2, ()), (2, ()))
        self.assertEqual(told_apart(holder, goal, one, other), (2, ()))
        self.assertEqual(unlike(told_apart(holder, goal, one, other[:2] + one[2:])), 1)
        self.assertEqual(unlike(told_apart(holder, goal, one, other[:1] + one[1:])), 2)

    def test_many_places_may_need_fewer_things_than_few(self):
        one, other = ((0, (0,)), (1, (0,))), ((0, (1,)), (0, (0,)))
        self.assertEqual(unlike(told_apart((2, 3), (1, 1), one, other)), 1)
        self.assertEqual(unlike(told_apart((3, 2), (1, 1), one[::-1], other[::-1])), 1)

    def test_the_greatest_holders(self):
        one = ((59, (11,) * 12),) * 60
        other = one[:59] + ((59, (11,) * 11 + (10,)),)
        found = told_apart((12,) * 60, (12,) * 60, one, other)
        self.assertNotEqual(lead(one, found), lead(other, found))
        self.assertEqual(unlike(found), 2)

    def test_programs_without_shapes_are_the_same(self):
        self.refused(NoRow, {}, told_apart, (), (), (), ())
        self.refused(NoRow, {}, told_apart, (), (1,), (), ())


class IsApart(Case):

    def test_all_small_fillings(self):
        for one in programs(HERE, GOAL):
            for other in programs(HERE, GOAL):
                for filling in fillings(HERE, 3):
                    expected = lead(one, filling) != lead(other, filling)
                    self.assertIs(is_apart(HERE, GOAL, one, other, filling), expected)

    def test_great_things(self):
        self.assertIs(is_apart(HERE, GOAL, TURN, DOUBLE, (0, (MOST, MOST - 1))), True)
        self.assertIs(is_apart(HERE, GOAL, TURN, DOUBLE, (0, (MOST, MOST))), False)
        self.assertIs(is_apart(HERE, GOAL, TURN, DOUBLE, (0, (MOST + 1, 0))), False)

    def test_a_value_of_any_kind(self):
        wrong = [(0, [0, 1]), [0, (0, 1)], (False, (0, 1)), (0, (0, True)), (0, (0, 1), 0), (0, (1,)), (1, (0,)), (0,)]
        wrong += [(0, (0, thing)) for thing in STRANGE] + [(thing, (0, 1)) for thing in STRANGE]
        for value in wrong + STRANGE + STRANGE_TUPLES + STRANGE_INTEGERS + [(), 0, 1]:
            self.assertIs(is_apart(HERE, GOAL, TURN, DOUBLE, value), False)
            self.assertIs(is_apart((), (), (), (), value), False)

    def test_a_program_is_never_apart_from_itself(self):
        for filling in fillings(HERE, 2):
            self.assertIs(is_apart(HERE, GOAL, TURN, TURN, filling), False)


class Orders(Case):

    def test_two_programs(self):
        bad, ill = (13,), [0]
        for function, rest in ((told_apart, ()), (is_apart, (None,))):
            self.refused(BadHolder, {"value": bad}, function, bad, ill, None, None, *rest)
            self.refused(BadHolder, {"value": ill}, function, HERE, ill, None, None, *rest)
            self.refused(BadProgram, {"place": ()}, function, HERE, GOAL, None, (None,), *rest)
            self.refused(BadProgram, {"place": (0,)}, function, HERE, GOAL, (None,), None, *rest)
            self.refused(BadProgram, {"place": ()}, function, HERE, GOAL, TURN, None, *rest)
            self.refused(BadProgram, {"place": (0,)}, function, HERE, GOAL, TURN, ((2, ()),), *rest)

    def test_one_program(self):
        bad, ill = (13,), [0]
        for function in (is_one_to_one, is_onto, back):
            self.refused(BadHolder, {"value": bad}, function, bad, ill, None)
            self.refused(BadHolder, {"value": ill}, function, HERE, ill, None)
            self.refused(BadProgram, {"place": ()}, function, HERE, GOAL, ())
            self.refused(BadProgram, {"place": (0,)}, function, HERE, GOAL, ((1, (2,)),))
            for value in STRANGE:
                self.refused(BadHolder, {"value": value}, function, value, GOAL, TURN)
                self.refused(BadHolder, {"value": value}, function, HERE, value, TURN)
                self.refused(BadProgram, {"place": ()}, function, HERE, GOAL, value)
                self.refused(BadProgram, {"place": (0,)}, function, HERE, GOAL, (value,))


class OneToOneAndOnto(Case):

    def test_one_to_one_against_all_fillings(self):
        for holder, goal, program in all_triples():
            found = is_one_to_one(holder, goal, program)
            expected = True
            for many in range(4):
                here = fillings(holder, many)
                expected = expected and len({lead(program, filling) for filling in here}) == len(here)
            self.assertIs(found, expected, (holder, goal, program))

    def test_onto_against_all_fillings(self):
        for holder, goal, program in all_triples():
            found = is_onto(holder, goal, program)
            expected = True
            for many in range(4):
                reached = {lead(program, filling) for filling in fillings(holder, many)}
                expected = expected and reached == set(fillings(goal, many))
            self.assertIs(found, expected, (holder, goal, program))

    def test_one_to_one_to_the_letter(self):
        self.assertIs(is_one_to_one((2,), (3,), ((0, (0, 1, 1)),)), True)
        self.assertIs(is_one_to_one((2,), (3,), ((0, (1, 1, 1)),)), False)
        self.assertIs(is_one_to_one((1, 1), (1,), ((0, (0,)), (0, (0,)))), False)
        self.assertIs(is_one_to_one((), (), ()), True)
        self.assertIs(is_one_to_one((0, 0), (0,), ((0, ()), (0, ()))), False)

    def test_onto_by_the_empty_set_too(self):
        self.assertIs(is_onto((1,), (0,), ((0, ()),)), False)
        self.assertIs(is_onto((1, 0), (0,), ((0, ()), (0, ()))), True)
        self.assertIs(is_onto((2,), (1,), ((0, (1,)),)), True)
        self.assertIs(is_onto((), (), ()), True)
        self.assertIs(is_onto((), (0,), ()), False)

    def test_onto_asks_for_one_shape_that_goes_to_unlike_places(self):
        self.assertIs(is_onto((1,), (2,), ((0, (0, 0)),)), False)
        self.assertIs(is_onto((1, 2), (2,), ((0, (0, 0)), (0, (1, 0)))), True)
        self.assertIs(is_onto((2,), (2, 1), TURN), False)


class Back(Case):

    def test_it_undoes(self):
        for holder, goal, program in all_triples():
            ways = []
            if plain_form(holder) == plain_form(goal):
                ways = [way for way in programs(goal, holder)
                        if one_behind(holder, goal, holder, program, way) == still(holder)
                        and one_behind(goal, holder, goal, way, program) == still(goal)]
            both = is_one_to_one(holder, goal, program) and is_onto(holder, goal, program)
            self.assertIs(both, bool(ways), (holder, goal, program))
            if both:
                self.assertEqual(plain_form(holder), plain_form(goal))
                self.assertEqual([back(holder, goal, program)], ways)
                self.assertTrue(plain_throughout(back(holder, goal, program)))
            else:
                self.refused(NoRow, {}, back, holder, goal, program)

    def test_nothing_else_can_be_undone(self):
        for holder, goal, program in all_triples():
            if plain_form(holder) != plain_form(goal):
                self.refused(NoRow, {}, back, holder, goal, program)

    def test_to_the_letter(self):
        self.assertEqual(back((3, 0), (0, 3), ((1, (1, 2, 0)), (0, ()))), ((1, ()), (0, (2, 0, 1))))
        self.assertEqual(back((), (), ()), ())
        self.refused(NoRow, {}, back, (), (0,), ())
        self.refused(NoRow, {}, back, (2,), (2,), DOUBLE)

    def test_the_greatest_holders(self):
        turned = tuple((59 - shape, tuple(range(11, -1, -1))) for shape in range(60))
        self.assertEqual(back((12,) * 60, (12,) * 60, turned), turned)
        self.assertEqual(back((12,) * 60, (12,) * 60, still((12,) * 60)), still((12,) * 60))


if __name__ == "__main__":
    unittest.main()
