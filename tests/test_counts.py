"""[7], [17], [18] Counting: how many fillings there are FOR ALL n, taking off and dividing."""

import unittest
from collections import Counter, namedtuple
from itertools import combinations_with_replacement

from holdfills.counts import counts_apart, fillings_line, quotient, same_counts, taken_off
from holdfills.errors import BadHolder, BadParameter, NoRow
from holdfills.holders import count_fillings, plain_form
from holdfills.programs import back
from raising import Case
from samples import Number, SMALL_HOLDERS, STRANGE, STRANGE_INTEGERS, STRANGE_TUPLES, TINY_HOLDERS
from samples import plain_throughout, programs

GREAT = (12,) * 60
WRONG = STRANGE + STRANGE_TUPLES + STRANGE_INTEGERS + [(13,), (-1,), (0,) * 61, [1], (1, None), ((1,),), 0, "12"]


def plain_holders(most_shapes, most_places):
    """Return all holders in plain form of so many shapes and places."""
    return [row for count in range(most_shapes + 1)
            for row in combinations_with_replacement(range(most_places + 1), count)]


def product_of(one, other):
    return tuple(sorted(size + more for size in one for more in other))


class FillingsLine(Case):

    def test_to_the_letter(self):
        self.assertEqual(fillings_line(()), ())
        self.assertEqual(fillings_line((0,)), (1,))
        self.assertEqual(fillings_line((3, 1, 1)), (0, 2, 0, 1))
        self.assertEqual(fillings_line((2, 2, 2)), (0, 0, 3))
        self.assertEqual(fillings_line((2, 0, 1, 0)), (2, 1, 1))

    def test_it_tells_how_many_fillings_there_are(self):
        for holder in SMALL_HOLDERS:
            line = fillings_line(holder)
            for many in range(5):
                told = sum(count * many ** size for size, count in enumerate(line))
                self.assertEqual(told, count_fillings(holder, many))
            self.assertEqual(len(line), max(holder, default=-1) + 1)
            self.assertTrue(plain_throughout(line))

    def test_the_edges(self):
        self.assertEqual(fillings_line(GREAT), (0,) * 12 + (60,))
        self.assertEqual(fillings_line((0,) * 60), (60,))
        self.assertEqual(fillings_line(tuple(range(13))), (1,) * 13)
        self.assertTrue(plain_throughout(fillings_line((Number(2), Number(1)))))

    def test_what_is_no_holder(self):
        for value in WRONG:
            self.refused(BadHolder, {"value": value}, fillings_line, value)


class SameCounts(Case):

    def test_exactly_those_of_one_plain_form(self):
        listed = plain_holders(3, 3) + SMALL_HOLDERS
        for one in listed:
            for other in listed:
                alike = all(count_fillings(one, many) == count_fillings(other, many) for many in range(8))
                self.assertIs(same_counts(one, other), alike)
                self.assertIs(same_counts(one, other), plain_form(one) == plain_form(other))

    def test_exactly_those_between_which_a_program_can_be_undone(self):
        for one in TINY_HOLDERS:
            for other in TINY_HOLDERS:
                undone = False
                for program in programs(one, other):
                    try:
                        back(one, other, program)
                        undone = True
                    except NoRow:
                        pass
                self.assertIs(same_counts(one, other), undone)

    def test_the_example(self):
        self.assertIs(same_counts((3, 1, 1), (2, 2, 2)), False)
        self.assertIs(same_counts((3, 1, 1), (1, 3, 1)), True)
        self.assertIs(same_counts((), ()), True)
        self.assertIs(same_counts((), (0,)), False)
        self.assertIs(same_counts(GREAT, GREAT[1:]), False)


class CountsApart(Case):

    def test_the_example(self):
        self.assertEqual(counts_apart((3, 1, 1), (2, 2, 2)), 3)
        self.assertEqual([count_fillings((3, 1, 1), many) for many in range(4)], [0, 3, 12, 33])
        self.assertEqual([count_fillings((2, 2, 2), many) for many in range(4)], [0, 3, 12, 27])

    def test_the_least_one(self):
        listed = plain_holders(3, 4)
        for one in listed:
            for other in listed:
                if one == other:
                    self.refused(NoRow, {}, counts_apart, one, other)
                    continue
                found = counts_apart(one, other)
                self.assertTrue(plain_throughout(found))
                unlike = [many for many in range(found + 1)
                          if count_fillings(one, many) != count_fillings(other, many)]
                self.assertEqual(unlike, [found])
                self.check_bounds(one, other, found)

    def check_bounds(self, one, other, found):
        """Check what the document tells of the number."""
        if one.count(0) != other.count(0):
            self.assertEqual(found, 0)
        else:
            unlike = [size for size in range(13) if one.count(size) != other.count(size)]
            self.assertIn(found, range(1, len(unlike) + 1))

    def test_of_great_holders(self):
        self.assertEqual(counts_apart(GREAT, GREAT[1:]), 1)
        self.assertEqual(counts_apart(GREAT, GREAT[1:] + (11,)), 2)
        self.assertEqual(counts_apart((0,) + GREAT[1:], GREAT), 0)
        # x (x - 1) (x - 2) (x - 3): as many by none, one, two and three things.
        one, other = (4,) + (2,) * 11, (3,) * 6 + (1,) * 6
        self.assertEqual(counts_apart(one, other), 4)
        self.check_bounds(one, other, 4)

    def test_turned_about(self):
        for one in SMALL_HOLDERS:
            for other in SMALL_HOLDERS:
                if plain_form(one) == plain_form(other):
                    self.refused(NoRow, {}, counts_apart, one, other)
                else:
                    self.assertEqual(counts_apart(one, other), counts_apart(other, one))


class TakenOff(Case):

    def test_what_added_is_the_first_one(self):
        listed = plain_holders(3, 2)
        for one in listed:
            for other in listed:
                left = [part for part in plain_holders(3, 2) if tuple(sorted(part + other)) == one]
                self.assertLessEqual(len(left), 1)
                for turned in (other, other[::-1]):
                    if left:
                        self.assertEqual(taken_off(one, turned), left[0])
                        self.assertEqual(taken_off(one[::-1], turned), left[0])
                    else:
                        self.refused(NoRow, {}, taken_off, one, turned)

    def test_to_the_letter(self):
        self.assertEqual(taken_off((3, 0, 2, 0), (0, 3)), (0, 2))
        self.assertEqual(taken_off((), ()), ())
        self.assertEqual(taken_off((2, 1), ()), (1, 2))
        self.assertEqual(taken_off((2, 1), (1, 2)), ())
        self.refused(NoRow, {}, taken_off, (), (0,))
        self.refused(NoRow, {}, taken_off, (1, 2), (1, 1))

    def test_of_the_greatest_holders(self):
        self.assertEqual(self.quick(taken_off, GREAT, GREAT[:59]), (12,))
        self.assertEqual(taken_off(GREAT, GREAT), ())
        self.assertEqual(taken_off(tuple(range(13)) * 4, tuple(range(13)) * 3), tuple(range(13)))
        self.refused(NoRow, {}, taken_off, GREAT[:59], GREAT)


class Quotient(Case):

    def test_what_multiplied_is_the_first_one(self):
        parts = [part for part in plain_holders(4, 3) if part]
        found = {}
        for part in parts:
            for other in parts:
                if len(part) * len(other) <= 8:
                    found[(product_of(part, other), other)] = part
        for (one, other), part in found.items():
            for turned in (other, other[::-1]):
                self.assertEqual(quotient(one, turned), part)
                self.assertEqual(quotient(one[::-1], turned), part)
            self.assertTrue(plain_throughout(quotient(one, other)))

    def test_nothing_else_has_a_quotient(self):
        listed = plain_holders(4, 3)
        for one in listed:
            for other in listed[1:]:
                fitting = [part for part in listed if product_of(part, other) == one]
                self.assertLessEqual(len(fitting), 1)
                if fitting:
                    self.assertEqual(quotient(one, other), fitting[0])
                else:
                    self.refused(NoRow, {}, quotient, one, other)

    def test_to_the_letter(self):
        self.assertEqual(quotient((1, 2, 2, 3), (0, 1)), (1, 2))
        self.assertEqual(quotient((), (0,)), ())
        self.assertEqual(quotient((), GREAT), ())
        self.assertEqual(quotient((3, 1), (0,)), (1, 3))
        self.assertEqual(quotient((3, 1), (1, 3)), (0,))
        self.assertEqual(quotient((3, 1), (1,)), (0, 2))
        self.refused(NoRow, {}, quotient, (3, 1), (2,))
        self.refused(NoRow, {}, quotient, (0, 1), (1, 2))
        # With a number below 0 there would be one: 1 + x is (1 + x ** 3) divided by (1 - x + x ** 2).
        self.refused(NoRow, {}, quotient, (0, 3), (0, 1))

    def test_no_shapes_to_divide_by(self):
        class Empty(tuple):
            pass
        for value in ((), Empty()):
            self.refused(BadParameter, {"value": value}, quotient, (1, 2), value)
            self.refused(BadParameter, {"value": value}, quotient, (), value)
        for value in STRANGE:
            self.refused(BadHolder, {"value": value}, quotient, value, ())

    def test_of_the_greatest_holders(self):
        self.assertEqual(self.quick(quotient, GREAT, GREAT), (0,))
        self.assertEqual(self.quick(quotient, GREAT, (6,) * 6), (6,) * 10)
        self.assertEqual(self.quick(quotient, (0,) * 60, (0,) * 12), (0,) * 5)
        self.refused(NoRow, {}, quotient, (0,) * 60, (0,) * 7)
        one, other = (0, 1, 2, 5, 6), (0, 0, 1, 3, 3, 4, 4, 4, 5, 5, 6, 6)
        self.assertEqual(quotient(product_of(one, other), one), other)
        self.assertEqual(quotient(product_of(one, other), other), one)
        self.refused(NoRow, {}, quotient, GREAT, (12,) * 59)

    def test_numbers_of_shapes(self):
        for one in plain_holders(6, 1):
            for other in plain_holders(6, 1)[1:]:
                if len(one) % len(other):
                    self.refused(NoRow, {}, quotient, one, other)


class Orders(Case):

    def test_the_first_one_and_then_the_other(self):
        for function in (same_counts, counts_apart, taken_off, quotient):
            for value in WRONG:
                self.refused(BadHolder, {"value": value}, function, value, 13)
                self.refused(BadHolder, {"value": value}, function, (1, 2), value)
                self.refused(BadHolder, {"value": value}, function, (), value)

    def test_only_plain_values_come_back(self):
        pair = namedtuple("pair", "one other")
        one, other = pair(Number(1), Number(2)), (Number(1),)
        self.assertIs(same_counts(one, (2, 1)), True)
        for found in (fillings_line(one), counts_apart(one, other), taken_off(one, other), quotient(one, other),
                      quotient((2,), (Number(1),)), taken_off(one, ())):
            self.assertTrue(plain_throughout(found))

    def test_lines_are_the_numbers_of_shapes(self):
        for holder in plain_holders(4, 3):
            self.assertEqual({size: many for size, many in enumerate(fillings_line(holder)) if many}, Counter(holder))


if __name__ == "__main__":
    unittest.main()
