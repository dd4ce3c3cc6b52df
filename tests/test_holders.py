"""[2], [7], [8] Holders: what they are, their plain form, and how many fillings they have."""

import unittest
from collections import namedtuple
from itertools import permutations

from holdfills.errors import BadHolder, BadParameter
from holdfills.holders import count_fillings, need_holder, plain_form
from raising import Case
from samples import MOST, Number, SMALL_HOLDERS, STRANGE, STRANGE_INTEGERS, STRANGE_TUPLES, fillings, plain_throughout


class NeedHolder(Case):

    def test_holders_are_returned(self):
        for holder in SMALL_HOLDERS + [(12,), (0,) * 60, (12,) * 60, tuple(range(13))]:
            self.assertEqual(need_holder(holder), holder)

    def test_what_is_no_holder(self):
        wrong = [(13,), (0, 13), (-1,), (0, -1), (12,) * 61, (0,) * 61, (1, True), (False,), ((),), ((1,),), (10 ** 6000,)]
        wrong += [(0, thing) for thing in STRANGE]
        wrong += [(thing,) * 60 for thing in STRANGE]
        for value in wrong + STRANGE + STRANGE_TUPLES + [0, 1, 12, -1]:
            self.refused(BadHolder, {"value": value}, need_holder, value)
            self.refused(BadHolder, {"value": value}, plain_form, value)
            self.refused(BadHolder, {"value": value}, count_fillings, value, 2)

    def test_only_plain_tuples_of_plain_integers_come_back(self):
        pair = namedtuple("pair", "one other")
        for value in (pair(1, 2), (Number(1), Number(2))):
            found = need_holder(value)
            self.assertEqual(found, (1, 2))
            self.assertTrue(plain_throughout(found))
            self.assertTrue(plain_throughout(plain_form(value)))
            self.assertTrue(plain_throughout(count_fillings(value, Number(3))))


class PlainForm(Case):

    def test_the_numbers_ascend(self):
        self.assertEqual(plain_form(()), ())
        self.assertEqual(plain_form((2, 0, 1, 2)), (0, 1, 2, 2))
        self.assertEqual(plain_form((12,) * 30 + (0,) * 30), (0,) * 30 + (12,) * 30)
        for order in permutations((0, 3, 3, 12)):
            self.assertEqual(plain_form(order), (0, 3, 3, 12))


class CountFillings(Case):

    def test_ordinary_ones(self):
        self.assertEqual(count_fillings((2, 1), 3), 12)
        self.assertEqual(count_fillings((3, 1, 1), 3), 33)
        self.assertEqual(count_fillings((2, 2, 2), 3), 27)

    def test_they_are_as_many_as_there_are(self):
        for holder in SMALL_HOLDERS:
            for many in range(5):
                self.assertEqual(count_fillings(holder, many), len(fillings(holder, many)))

    def test_the_edges(self):
        for many in (0, 1, 2, MOST):
            self.assertEqual(count_fillings((), many), 0)
            self.assertEqual(count_fillings((0,), many), 1)
            self.assertEqual(count_fillings((0,) * 60, many), 60)
        self.assertEqual(count_fillings((1, 2, 12), 0), 0)
        self.assertEqual(count_fillings((12,) * 60, MOST), 60 * 10 ** 720)
        self.assertEqual(count_fillings((12, 0), MOST), 10 ** 720 + 1)

    def test_what_many_is_not(self):
        for many in STRANGE + STRANGE_TUPLES + STRANGE_INTEGERS + [()]:
            self.refused(BadParameter, {"value": many}, count_fillings, (2, 1), many)
            self.refused(BadParameter, {"value": many}, count_fillings, (), many)

    def test_the_holder_is_refused_first(self):
        wrong = [1]
        self.refused(BadHolder, {"value": wrong}, count_fillings, wrong, None)
        self.refused(BadHolder, {"value": wrong}, count_fillings, many=None, holder=wrong)

    def test_one_plain_form_has_as_many_fillings(self):
        for one in SMALL_HOLDERS:
            for other in SMALL_HOLDERS:
                alike = all(count_fillings(one, many) == count_fillings(other, many) for many in range(6))
                self.assertEqual(alike, plain_form(one) == plain_form(other))


if __name__ == "__main__":
    unittest.main()
