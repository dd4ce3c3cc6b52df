"""[7], [19], [20] Cuts of holders into two that multiplied are them, and holes of holders."""

import unittest
from collections import Counter, namedtuple
from itertools import combinations_with_replacement

from holdfills.cuts import all_cuts, hole_filled, holes
from holdfills.errors import BadHolder, BadIndex, BadParameter, TooGreat
from holdfills.holders import count_fillings, plain_form
from raising import Case
from samples import MOST, Number, SMALL_HOLDERS, STRANGE, STRANGE_INTEGERS, STRANGE_TUPLES, fillings, plain_throughout

GREAT = (12,) * 60
WRONG = STRANGE + STRANGE_TUPLES + STRANGE_INTEGERS + [(13,), (-1,), (0,) * 61, [1], (1, None), ((1,),), 0, "12"]
WRONG_THINGS = STRANGE + STRANGE_TUPLES + STRANGE_INTEGERS + [(), (0,), [5]]


def plain_holders(shapes, most_places):
    return list(combinations_with_replacement(range(most_places + 1), shapes))


def product_of(one, other):
    return tuple(sorted(size + more for size in one for more in other))


def cuts_of(holder):
    """Return all cuts, found apart from the program, by trying all pairs of holders."""
    most = max(holder)
    found = set()
    for count in range(1, len(holder) + 1):
        if len(holder) % count == 0:
            for one in plain_holders(count, most):
                for other in plain_holders(len(holder) // count, most):
                    if one <= other and product_of(one, other) == tuple(sorted(holder)):
                        found.add((one, other))
    return tuple(sorted(found))


class AllCuts(Case):

    def test_against_all_pairs(self):
        for shapes in range(1, 5):
            for holder in plain_holders(shapes, 4 if shapes < 4 else 3):
                self.assertEqual(all_cuts(holder), cuts_of(holder))

    def test_products_of_small_holders(self):
        parts = [part for shapes in range(1, 4) for part in plain_holders(shapes, 2)]
        for one in parts:
            for other in parts:
                if len(one) * len(other) > 4:
                    holder = product_of(one, other)
                    self.check_cuts(holder)
                    self.assertIn((min(one, other), max(one, other)), all_cuts(holder))
        for holder in ((0, 1, 1, 2, 2, 3), (1, 1, 2, 2, 3, 3), (0, 0, 0, 1, 1, 1), (2,) * 6):
            self.assertEqual(all_cuts(holder), cuts_of(holder))

    def check_cuts(self, holder):
        """Check what the document tells of cuts."""
        found = all_cuts(holder)
        self.assertEqual(list(found), sorted(set(found)))
        self.assertTrue(plain_throughout(found))
        self.assertEqual(found[0], ((0,), plain_form(holder)))
        for one, other in found:
            self.assertLessEqual(one, other)
            self.assertEqual(len(one) * len(other), len(holder))
            self.assertEqual((one, other), (plain_form(one), plain_form(other)))
            self.assertEqual(product_of(one, other), plain_form(holder))

    def test_to_the_letter(self):
        whole = (0, 1, 2, 3, 4, 5)
        expected = (((0,), whole), ((0, 1), (0, 2, 4)), ((0, 1, 2), (0, 3)))
        self.assertEqual(all_cuts(whole), expected)
        self.assertEqual(all_cuts(whole[::-1]), expected)
        self.assertEqual(all_cuts((0,)), (((0,), (0,)),))
        self.assertEqual(all_cuts((3,)), (((0,), (3,)), ((1,), (2,))))
        self.assertEqual(all_cuts((1, 2)), (((0,), (1, 2)), ((0, 1), (1,))))
        self.assertEqual(all_cuts((0, 0)), (((0,), (0, 0)),))
        self.assertEqual(all_cuts((0, 2)), (((0,), (0, 2)),))
        self.assertEqual(all_cuts((12,)), tuple(((low,), (12 - low,)) for low in range(7)))

    def test_no_shapes(self):
        self.assertEqual(all_cuts(()), ())

    def test_no_common_refinement(self):
        # (0, 1) and (0, 2, 4), (0, 1, 2) and (0, 3): none of them can be cut but by (0,).
        for part in ((0, 1), (0, 2, 4), (0, 1, 2), (0, 3)):
            self.assertEqual(all_cuts(part), (((0,), part),))

    def test_24_shapes_and_one_more(self):
        self.assertEqual(self.quick(all_cuts, (0,) * 24), tuple(((0,) * few, (0,) * (24 // few)) for few in (1, 2, 3, 4)))
        great = self.quick(all_cuts, (12,) * 24)
        expected = {tuple(sorted(((low,) * few, (12 - low,) * (24 // few)))) for few in (1, 2, 3, 4, 6, 8, 12, 24)
                    for low in range(13)}
        self.assertEqual(great, tuple(sorted(expected)))
        for holder in ((0,) * 25, (12,) * 25, GREAT, tuple(range(13)) * 2):
            self.refused(TooGreat, {"most": 24}, all_cuts, holder)

    def test_24_shapes_of_like_and_of_unlike_numbers_of_places(self):
        listed = [(0, 1, 3, 4), (0, 1, 2, 3, 4, 5), (0, 2, 4, 6, 6, 8), (0, 0, 0, 0, 0, 1)]
        listed = [product_of((0, 1, 2, 3), one) for one in listed]
        listed += [tuple(range(12)) * 2, tuple(range(13)) + tuple(range(1, 12))]
        listed += [(0, 1) * 12, (0, 12) * 12, (0, 6, 12) * 8, (5, 6) * 12, product_of((0, 1, 1, 2), (0, 2, 2, 4, 6, 8))]
        for holder in listed:
            self.quick(all_cuts, holder)
            self.check_cuts(holder)
        # Two out of one holder, by any numbers of shapes.
        for few, many in ((1, 24), (2, 12), (3, 8), (4, 6)):
            one, other = tuple(range(few)), tuple(number % 8 for number in range(many))
            self.assertIn((min(one, plain_form(other)), max(one, plain_form(other))), all_cuts(product_of(one, other)))

    def test_what_is_no_holder(self):
        for value in WRONG:
            self.refused(BadHolder, {"value": value}, all_cuts, value)
        wrong = (0,) * 24 + (13,)
        self.refused(BadHolder, {"value": wrong}, all_cuts, wrong)

    def test_only_plain_values_come_back(self):
        pair = namedtuple("pair", "one other")
        self.assertTrue(plain_throughout(all_cuts(pair(Number(1), Number(2)))))


class Holes(Case):

    def test_to_the_letter(self):
        self.assertEqual(holes((2, 0, 1)), (1, 1, 0))
        self.assertEqual(holes(()), ())
        self.assertEqual(holes((0,) * 60), ())
        self.assertEqual(holes((3,)), (2, 2, 2))

    def test_where_each_hole_is(self):
        for holder in SMALL_HOLDERS:
            found = holes(holder)
            for shape, size in enumerate(holder):
                for place in range(size):
                    self.assertEqual(found[place + sum(holder[:shape])], size - 1)
            self.assertEqual(len(found), sum(holder))
            self.assertTrue(plain_throughout(found))

    def test_60_holes_and_one_more(self):
        self.assertEqual(holes((12,) * 5), (11,) * 60)
        self.assertEqual(holes((1,) * 60), (0,) * 60)
        self.assertEqual(holes((12,) * 5 + (0,) * 55), (11,) * 60)
        for holder in ((12,) * 5 + (1,), (2,) + (1,) * 59, GREAT, (7,) * 9):
            self.refused(TooGreat, {"most": 60}, holes, holder)

    def test_n_times_as_many_as_pairs_of_a_filling_and_a_place(self):
        for holder in SMALL_HOLDERS + [(12, 12, 12, 12, 12), (3, 4, 5)]:
            for many in (0, 1, 2, 3, 7, MOST):
                pairs = sum(size * many ** size for size in holder)
                self.assertEqual(many * count_fillings(holes(holder), many), pairs)

    def test_the_holes_of_a_sum(self):
        for one in SMALL_HOLDERS:
            for other in SMALL_HOLDERS:
                self.assertEqual(holes(one + other), holes(one) + holes(other))

    def test_what_is_no_holder(self):
        for value in WRONG:
            self.refused(BadHolder, {"value": value}, holes, value)


class HoleFilled(Case):

    def test_to_the_letter(self):
        self.assertEqual(hole_filled((3, 1), 0, 1, (7, 8), 9), (0, (7, 9, 8)))
        self.assertEqual(hole_filled((3, 1), 0, 0, (7, 8), 9), (0, (9, 7, 8)))
        self.assertEqual(hole_filled((3, 1), 0, 2, (7, 8), 9), (0, (7, 8, 9)))
        self.assertEqual(hole_filled((3, 1), 1, 0, (), MOST), (1, (MOST,)))
        whole = tuple(range(11))
        self.assertEqual(hole_filled(GREAT, 59, 11, whole, 0), (59, whole + (0,)))

    def test_each_pair_comes_from_one_filling_of_the_holes_and_one_thing(self):
        for holder in SMALL_HOLDERS:
            found = []
            for number, things in fillings(holes(holder), 3):
                shape, place = [(shape, place) for shape, size in enumerate(holder) for place in range(size)][number]
                for thing in range(3):
                    found.append((hole_filled(holder, shape, place, things, thing), place))
            pairs = [(filling, place) for filling in fillings(holder, 3) for place in range(len(filling[1]))]
            self.assertEqual(Counter(found), Counter(pairs))

    def test_shapes_and_places(self):
        for value in STRANGE + STRANGE_TUPLES + [-1, 3, 60, MOST, 10 ** 6000, (), (0,)]:
            self.refused(BadIndex, {"value": value}, hole_filled, (3, 1, 0), value, None, None, None)
            self.refused(BadIndex, {"value": value}, hole_filled, (3, 1, 0), 0, value, None, None)
        for shape, places in ((0, 3), (1, 1), (2, 0)):
            self.refused(BadIndex, {"value": places}, hole_filled, (3, 1, 0), shape, places, None, None)
        self.refused(BadIndex, {"value": 0}, hole_filled, (), 0, 0, (), 0)
        self.refused(BadIndex, {"value": 0}, hole_filled, (0,), 0, 0, (), 0)

    def test_the_things(self):
        wrong = WRONG_THINGS + [(7,), (7, 8, 9), (7, -1), (7, MOST + 1), (7, True), (7, 8.0), [7, 8], "78", ((7, 8),)]
        wrong += [(7, value) for value in STRANGE + STRANGE_INTEGERS] + [(value, 7) for value in STRANGE]
        for things in wrong:
            self.refused(BadParameter, {"value": things}, hole_filled, (3, 1), 0, 1, things, None)
        for things in ((0,), None, [], 0, ((),)):
            self.refused(BadParameter, {"value": things}, hole_filled, (3, 1), 1, 0, things, None)
        self.assertEqual(hole_filled((3, 1), 0, 1, (0, MOST), 0), (0, (0, 0, MOST)))

    def test_the_thing(self):
        for thing in STRANGE + STRANGE_TUPLES + STRANGE_INTEGERS + [(), (0,)]:
            self.refused(BadParameter, {"value": thing}, hole_filled, (3, 1), 0, 1, (7, 8), thing)
            self.refused(BadParameter, {"value": thing}, hole_filled, (3, 1), 1, 0, (), thing)

    def test_the_order_of_the_errors(self):
        bad, ill = (13,), [0]
        self.refused(BadHolder, {"value": bad}, hole_filled, bad, None, None, None, None)
        self.refused(BadIndex, {"value": ill}, hole_filled, (2,), ill, bad, bad, bad)
        self.refused(BadIndex, {"value": bad}, hole_filled, (2,), 0, bad, ill, ill)
        self.refused(BadParameter, {"value": ill}, hole_filled, (2,), 0, 0, ill, bad)
        self.refused(BadParameter, {"value": bad}, hole_filled, (2,), 0, 0, (0,), bad)
        for value in WRONG:
            self.refused(BadHolder, {"value": value}, hole_filled, value, None, None, None, None)

    def test_of_more_than_60_holes(self):
        # No holder of holes is made here.
        self.assertEqual(hole_filled(GREAT, 7, 0, (5,) * 11, 6), (7, (6,) + (5,) * 11))

    def test_only_plain_values_come_back(self):
        pair = namedtuple("pair", "one other")
        found = hole_filled((Number(3),), Number(0), Number(1), pair(Number(7), Number(8)), Number(9))
        self.assertEqual(found, (0, (7, 9, 8)))
        self.assertTrue(plain_throughout(found))


if __name__ == "__main__":
    unittest.main()
