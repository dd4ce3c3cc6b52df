"""[2], [7], [9] Fillings: what they are, all of them, own ones and renamed ones."""

import unittest
from collections import namedtuple

from holdfills.errors import BadFilling, BadHolder, BadIndex, BadParameter, NoRow, TooGreat
from holdfills.fillings import all_fillings, need_filling, own_filling, renamed
from holdfills.holders import count_fillings
from raising import Case
from samples import MOST, Number, SMALL_HOLDERS, STRANGE, STRANGE_INTEGERS, STRANGE_TUPLES
from samples import fillings, plain_throughout, rows


class NeedFilling(Case):

    def test_fillings_are_returned(self):
        for holder in SMALL_HOLDERS:
            for filling in fillings(holder, 3):
                self.assertEqual(need_filling(holder, filling), filling)

    def test_the_edges(self):
        self.assertEqual(need_filling((1,), (0, (MOST,))), (0, (MOST,)))
        self.assertEqual(need_filling((12,) * 60, (59, (MOST,) * 12)), (59, (MOST,) * 12))
        self.assertEqual(need_filling((0,), (0, ())), (0, ()))

    def test_what_is_no_filling(self):
        wrong = [
            (), (0,), (0, (1, 2), 3), (2, ()), (2, (0,)), (-1, (0,)), (-2, (0, 0)), (0, (1,)), (0, (1, 2, 3)), (1, ()),
            (1, (1, 2)), (0, [1, 2]), [0, (1, 2)], (1, (MOST + 1,)), (1, (-1,)), (0, (0, True)), (0, (False, 0)),
            (True, (0,)), (False, (0, 0)), (0, (1, (2,))), (1, 5), (1, "5"), (1, b"5"), (10 ** 70, (0,)), (1, {0: 0}),
            (1, (10 ** 6000,)), (1, {0}), 0, 1, -1,
        ]
        wrong += [(1, (thing,)) for thing in STRANGE] + [(thing, (0,)) for thing in STRANGE]
        wrong += [(0, (0, thing)) for thing in STRANGE] + [(1, thing) for thing in STRANGE]
        for value in wrong + STRANGE + STRANGE_TUPLES:
            self.refused(BadFilling, {"value": value}, need_filling, (2, 1), value)
            self.refused(BadFilling, {"value": value}, renamed, (2, 1), value, (0, 1))

    def test_a_holder_without_shapes_has_none(self):
        for value in [(), (0, ()), (0, (0,)), (-1, ())] + STRANGE + STRANGE_TUPLES:
            self.refused(BadFilling, {"value": value}, need_filling, (), value)

    def test_the_holder_is_refused_first(self):
        for wrong in STRANGE + [(13,), (0,) * 61, (True,)]:
            self.refused(BadHolder, {"value": wrong}, need_filling, wrong, (0, ()))
            self.refused(BadHolder, {"value": wrong}, need_filling, wrong, None)

    def test_only_plain_values_come_back(self):
        pair = namedtuple("pair", "one other")
        found = need_filling((2,), pair(Number(0), pair(Number(5), 6)))
        self.assertEqual(found, (0, (5, 6)))
        self.assertTrue(plain_throughout(found))
        self.assertTrue(plain_throughout(own_filling((2,), Number(0))))
        self.assertTrue(plain_throughout(all_fillings((2,), Number(2))))
        self.assertTrue(plain_throughout(renamed((2,), (0, (0, 1)), pair(Number(5), Number(6)))))


class AllFillings(Case):

    def test_all_of_small_holders_ascending(self):
        for holder in SMALL_HOLDERS:
            for many in range(5):
                found = all_fillings(holder, many)
                self.assertEqual(found, tuple(fillings(holder, many)))
                self.assertEqual(list(found), sorted(found))
                self.assertEqual(len(found), count_fillings(holder, many))
                self.assertTrue(plain_throughout(found))

    def test_a_list_to_the_letter(self):
        self.assertEqual(all_fillings((1, 0), 2), ((0, (0,)), (0, (1,)), (1, ())))
        self.assertEqual(all_fillings((2,), 2), ((0, (0, 0)), (0, (0, 1)), (0, (1, 0)), (0, (1, 1))))

    def test_the_edges(self):
        for many in (0, 1, 401, MOST):
            self.assertEqual(all_fillings((), many), ())
            self.assertEqual(all_fillings((0, 0), many), ((0, ()), (1, ())))
        self.assertEqual(all_fillings((12,) * 60, 0), ())
        self.assertEqual(all_fillings((12,) * 60, 1), tuple((shape, (0,) * 12) for shape in range(60)))
        self.assertEqual(all_fillings((0,) * 60, MOST), tuple((shape, ()) for shape in range(60)))

    def test_400_are_listed_and_401_refused(self):
        self.assertEqual(all_fillings((1,), 400), tuple((0, (thing,)) for thing in range(400)))
        self.assertEqual(len(all_fillings((2,), 20)), 400)
        self.assertEqual(len(all_fillings((0, 1), 399)), 400)
        for holder, many in (((1,), 401), ((0, 2), 20), ((0, 1), 400), ((2,), 21), ((1,), MOST), ((12,) * 60, MOST)):
            self.refused(TooGreat, {"most": 400}, all_fillings, holder, many)

    def test_what_many_is_not(self):
        for many in STRANGE + STRANGE_TUPLES + STRANGE_INTEGERS + [()]:
            self.refused(BadParameter, {"value": many}, all_fillings, (1,), many)

    def test_the_order_of_the_errors(self):
        wrong = [0]
        self.refused(BadHolder, {"value": wrong}, all_fillings, wrong, wrong)
        self.refused(BadHolder, {"value": wrong}, all_fillings, wrong, MOST)


class OwnFilling(Case):

    def test_each_place_has_itself(self):
        self.assertEqual(own_filling((2, 1, 0), 0), (0, (0, 1)))
        self.assertEqual(own_filling((2, 1, 0), 1), (1, (0,)))
        self.assertEqual(own_filling((2, 1, 0), 2), (2, ()))
        self.assertEqual(own_filling((12,) * 60, 59), (59, tuple(range(12))))

    def test_what_is_no_shape(self):
        for shape in STRANGE + STRANGE_TUPLES + STRANGE_INTEGERS + [2, -2, MOST]:
            self.refused(BadIndex, {"value": shape}, own_filling, (2, 1), shape)
        for shape in (0, -1, None):
            self.refused(BadIndex, {"value": shape}, own_filling, (), shape)

    def test_the_holder_is_refused_first(self):
        wrong = (13,)
        self.refused(BadHolder, {"value": wrong}, own_filling, wrong, 7)


class Renamed(Case):

    def test_thing_by_thing(self):
        self.assertEqual(renamed((3,), (0, (0, 2, 0)), (5, 6, MOST)), (0, (5, MOST, 5)))
        self.assertEqual(renamed((3,), (0, (0, 1, 2)), (4, 4, 4)), (0, (4, 4, 4)))
        self.assertEqual(renamed((0, 1), (0, ()), ()), (0, ()))

    def test_each_filling_is_its_own_one_renamed(self):
        for holder in SMALL_HOLDERS:
            for filling in fillings(holder, 3):
                self.assertEqual(renamed(holder, own_filling(holder, filling[0]), filling[1]), filling)

    def test_renamed_twice_is_renamed_once(self):
        for holder in ((2,), (1, 2), (0, 3)):
            for filling in fillings(holder, 2):
                for first in rows(3, 2):
                    for second in rows(2, 3):
                        both = tuple(second[name] for name in first)
                        once = renamed(holder, filling, both)
                        self.assertEqual(renamed(holder, renamed(holder, filling, first), second), once)

    def test_a_thing_without_a_name(self):
        self.refused(NoRow, {}, renamed, (2,), (0, (0, 1)), (5,))
        self.refused(NoRow, {}, renamed, (1,), (0, (0,)), ())
        self.refused(NoRow, {}, renamed, (1,), (0, (MOST,)), (0,) * 400)
        self.refused(NoRow, {}, renamed, (1,), (0, (400,)), (0,) * 400)
        self.assertEqual(renamed((1,), (0, (399,)), tuple(range(399, -1, -1))), (0, (0,)))

    def test_what_names_are_not(self):
        wrong = [(0,) * 401, tuple(range(401)), (0, MOST + 1), (0, -1), (0, True), (0, ()), [0, 1], (0, [1]), 0, 1]
        wrong += [(0, thing) for thing in STRANGE]
        for names in wrong + STRANGE:
            self.refused(BadParameter, {"value": names}, renamed, (2,), (0, (0, 0)), names)
            self.refused(BadParameter, {"value": names}, renamed, (0,), (0, ()), names)

    def test_the_order_of_the_errors(self):
        holder, filling, names = (13,), (0, (0, 7)), [0]
        self.refused(BadHolder, {"value": holder}, renamed, holder, filling, names)
        self.refused(BadFilling, {"value": filling}, renamed, (1,), filling, names)
        self.refused(BadParameter, {"value": names}, renamed, (2,), filling, names)
        too_long = (0,) * 401
        self.refused(BadParameter, {"value": too_long}, renamed, (1,), (0, (500,)), too_long)
        self.refused(NoRow, {}, renamed, (2,), filling, (0,))


if __name__ == "__main__":
    unittest.main()
