"""[7], [46] Windows: what is seen at each stand, and where one comes by putting a view there."""

import unittest
from itertools import product
from math import factorial

from holdfills.errors import BadLife, BadParameter, BadWindow, TooGreat
from holdfills.lifts import all_kept, is_kept
from holdfills.standings import need_land
from holdfills.windows import all_windows, life_window, need_window, window_behind, window_land, window_life
from landed import blocks_land
from lived import LifeCase
from samples import MOST, Number, STRANGE, STRANGE_INTEGERS, STRANGE_TUPLES, plain_throughout, rows

NO_NUMBER = STRANGE + STRANGE_INTEGERS + [0, (), (1,)]
STAY = ((0, 1), ((0, 1), (0, 1)))
FIVE = [(stands, views) for stands in range(1, 7) for views in range(1, 6)]


def first_broken_window(window):
    """Return the first rule of [46] that is broken, the least rule first, then ascending, or None."""
    seen, put = window
    stands, views = range(len(seen)), range(len(put[0]))
    for s in stands:
        if put[s][seen[s]] != s:
            return 0, s
    for s, v in product(stands, views):
        if seen[put[s][v]] != v:
            return 1, s, v
    for s, v, w in product(stands, views, views):
        if put[put[s][v]][w] != put[s][w]:
            return 2, s, v, w
    return None


def forms(stands, views):
    return product(rows(views, stands), product(rows(stands, views), repeat=stands))


def window_in_rows(stands, views):
    """Return the window in which the first stands are a lot, then the next ones, and so on, each seeing its view."""
    seen = tuple(stand % views for stand in range(stands))
    return seen, tuple(tuple(stand // views * views + view for view in range(views)) for stand in range(stands))


def behind(first, second):
    (seen, put), (later, back) = first, second
    stands, views = range(len(seen)), range(len(back[0]))
    return (tuple(later[seen[s]] for s in stands),
            tuple(tuple(put[s][back[seen[s]][v]] for v in views) for s in stands))


class NeedWindow(LifeCase):

    def test_all_that_has_the_form(self):
        met = set()
        for stands, views in ((1, 1), (1, 2), (2, 1), (2, 2), (3, 1), (3, 2), (1, 3)):
            for window in list(forms(stands, views))[::1 if stands < 3 or views < 2 else 7]:
                broken = first_broken_window(window)
                met.add(broken and broken[0])
                if broken is None:
                    self.assertEqual(need_window(stands, views, window), window)
                else:
                    self.refused(BadWindow, {"place": broken}, need_window, stands, views, window)
        kept = (0, 1, 0, 1), ((0, 1), (0, 1), (2, 3), (2, 3))
        for s, v, to in product(range(4), range(2), range(4)):
            put = [list(row) for row in kept[1]]
            put[s][v] = to
            window = (kept[0], tuple(map(tuple, put)))
            broken = first_broken_window(window)
            met.add(broken and broken[0])
            if broken is not None:
                self.refused(BadWindow, {"place": broken}, need_window, 4, 2, window)
        self.assertEqual(met, {None, 0, 1, 2})

    def test_each_rule_alone_with_the_least_numbers(self):
        good = (0, 1, 0, 1), ((0, 1), (0, 1), (2, 3), (2, 3))
        self.assertEqual(need_window(4, 2, good), good)
        for seen, put, place in (((0, 1, 0, 1), ((2, 1), (0, 1), (2, 3), (2, 3)), (0, 0)), ((0, 1, 0, 1), ((0, 1), (0, 1), (2, 3), (2, 1)), (0, 3)),
                                 ((0, 1, 0, 1), ((0, 0), (0, 1), (2, 3), (2, 3)), (1, 0, 1)), ((0, 1, 0, 1), ((0, 1), (1, 1), (2, 2), (2, 3)), (1, 1, 0)),
                                 ((0, 1, 0, 1), ((0, 3), (0, 1), (2, 3), (2, 3)), (2, 0, 1, 0)), ((0, 1, 0, 1), ((0, 1), (2, 1), (2, 3), (2, 3)), (2, 0, 1, 0)),
                                 ((0, 1, 0, 1), ((0, 1), (0, 1), (2, 1), (2, 3)), (2, 2, 1, 0)), ((0, 1, 0, 1), ((0, 3), (0, 1), (2, 3), (2, 2)), (0, 3)),
                                 ((0, 1, 0, 1), ((0, 3), (0, 1), (2, 2), (2, 3)), (1, 2, 1))):
            self.assertEqual(first_broken_window((seen, put)), place)
            self.refused(BadWindow, {"place": place}, need_window, 4, 2, (seen, put))

    def test_the_form(self):
        for bad in STRANGE + STRANGE_TUPLES + STRANGE_INTEGERS + [(), STAY[:1], STAY + ((),), list(STAY), dict([(0, STAY[0]), (1, STAY[1])])]:
            self.refused(BadWindow, {"place": ()}, need_window, 2, 2, bad)
        for bad in STRANGE + STRANGE_TUPLES + [(), (0,), (0, 1, 0), (0, 2), (-1, 1), [0, 1], "01"]:
            self.refused(BadWindow, {"place": ()}, need_window, 2, 2, (bad, STAY[1]))
            self.refused(BadWindow, {"place": ()}, need_window, 2, 2, (STAY[0], (STAY[1][0], bad)))
        for bad in STRANGE + STRANGE_TUPLES + [(), STAY[1][:1], STAY[1] + STAY[1][:1], list(STAY[1])]:
            self.refused(BadWindow, {"place": ()}, need_window, 2, 2, (STAY[0], bad))
        for value in STRANGE + STRANGE_INTEGERS + [2]:
            self.refused(BadWindow, {"place": ()}, need_window, 2, 2, ((0, value), STAY[1]))
            self.refused(BadWindow, {"place": ()}, need_window, 2, 2, (STAY[0], (STAY[1][0], (0, value))))
        # The form comes ahead of the rules.
        self.refused(BadWindow, {"place": ()}, need_window, 2, 2, ((1, 1), ((1, 1), (1, 2))))
        # So many stands and views as are told, not others.
        self.refused(BadWindow, {"place": ()}, need_window, 3, 2, STAY)
        self.refused(BadWindow, {"place": ()}, need_window, 2, 3, STAY)
        self.refused(BadWindow, {"place": ()}, need_window, 2, 1, STAY)

    def test_numbers_of_stands_and_views(self):
        for stands, views in ((1, 1), (40, 1), (36, 12), (12, 12), (40, 10)):
            window = window_in_rows(stands, views)
            self.assertEqual(self.quick(need_window, stands, views, window), window)
        last = window_in_rows(36, 12)
        wrong = (last[0], last[1][:35] + (last[1][35][:10] + (33, 35),))
        self.refused(BadWindow, {"place": first_broken_window(wrong)}, need_window, 36, 12, wrong)
        for bad in NO_NUMBER + [41]:
            self.refused(BadParameter, {"value": bad}, need_window, bad, None, None)
            self.refused(BadParameter, {"value": bad}, window_life, bad, None, None)
            self.refused(BadParameter, {"value": bad}, all_windows, bad, None)
            self.refused(BadParameter, {"value": bad}, window_behind, bad, None, None, None, None)
        for bad in NO_NUMBER + [13, 41]:
            self.refused(BadParameter, {"value": bad}, need_window, 2, bad, None)
            self.refused(BadParameter, {"value": bad}, window_life, 2, bad, None)
            self.refused(BadParameter, {"value": bad}, all_windows, 40, bad)
            self.refused(BadParameter, {"value": bad}, window_behind, 2, bad, None, None, None)
            self.refused(BadParameter, {"value": bad}, window_behind, 2, 2, bad, None, None)
            self.refused(BadParameter, {"value": bad}, window_land, bad)
            self.refused(BadParameter, {"value": bad}, life_window, bad, None)


class Lives(LifeCase):

    def test_the_land_of_views(self):
        for views in range(1, 13):
            land = self.quick(window_land, views)
            self.assertEqual(land[0], (views,) * views)
            self.assertEqual(need_land(land), land)
            self.assertEqual(land, blocks_land(views, views))
            for v, (here, seen) in enumerate(land[1]):
                self.assertEqual(here, v)
                self.assertEqual(seen, tuple((p, tuple(range(views))) for p in range(views)))

    def test_lives_and_back(self):
        for stands, views in FIVE:
            for window in all_windows(stands, views)[::7]:
                life = window_life(stands, views, window)
                self.assertEqual(life, tuple((window[0][s], window[1][s]) for s in range(stands)))
                self.assertIs(is_kept(window_land(views), life), True)
                self.assertEqual(life_window(views, life), window)

    def test_windows_are_the_lives_that_keep_the_standing(self):
        tried = 0
        for stands, views in ((1, 1), (2, 1), (5, 1), (2, 2), (3, 2), (4, 2), (3, 3), (1, 5), (1, 12)):
            if (views * stands ** (views - 1)) ** stands <= 5000:
                found = all_kept(window_land(views), stands)
                self.assertEqual(sorted(life_window(views, life) for life in found), list(all_windows(stands, views)))
                tried += 1
        self.assertGreater(tried, 4)

    def test_to_the_letter(self):
        self.assertEqual(window_land(2), ((2, 2), ((0, ((0, (0, 1)), (1, (0, 1)))), (1, ((0, (0, 1)), (1, (0, 1)))))))
        self.assertEqual(window_land(1), ((1,), ((0, ((0, (0,)),)),)))
        self.assertEqual(window_life(2, 2, STAY), ((0, (0, 1)), (1, (0, 1))))
        self.assertEqual(life_window(2, ((1, (1, 0)), (0, (1, 0)))), ((1, 0), ((1, 0), (1, 0))))

    def test_the_life(self):
        for bad in STRANGE + STRANGE_INTEGERS + [(), ((0, (0,)),) * 41, [(0, (0,))]]:
            self.refused(BadLife, {"place": ()}, life_window, 1, bad)
        for bad in STRANGE + STRANGE_TUPLES + [(0, (0,)), (0, (0, 1, 1)), (2, (0, 1)), (0, (0, 2))]:
            self.refused(BadLife, {"place": (1,)}, life_window, 2, ((0, (0, 1)), bad))
            self.refused(BadLife, {"place": (1,)}, life_window, 2, ((0, (1, 0)), bad))
        for life, place in ((((0, (1, 1)), (1, (0, 1))), (0, 0)), (((0, (0, 0)), (1, (0, 1))), (1, 0, 1)),
                            (((0, (0, 3)), (1, (0, 1)), (0, (2, 3)), (1, (2, 3))), (2, 0, 1, 0))):
            self.refused(BadLife, {"place": place}, life_window, 2, life)

    def test_the_window(self):
        for function in (need_window, window_life):
            self.refused(BadWindow, {"place": ()}, function, 2, 2, None)
            self.refused(BadWindow, {"place": (0, 0)}, function, 2, 2, ((1, 0), STAY[1]))

    def test_at_the_bounds(self):
        for stands, views in ((36, 12), (40, 10), (40, 1)):
            window = window_in_rows(stands, views)
            life = self.quick(window_life, stands, views, window)
            self.assertEqual(self.quick(life_window, views, life), window)


class AllWindows(LifeCase):

    def test_all_of_small_numbers(self):
        for stands, views in ((1, 1), (1, 2), (2, 1), (2, 2), (3, 1), (1, 3), (3, 2)):
            self.assertEqual(list(all_windows(stands, views)), [form for form in forms(stands, views) if first_broken_window(form) is None])

    def test_the_example(self):
        self.assertEqual(all_windows(2, 2), (((0, 1), ((0, 1), (0, 1))), ((1, 0), ((1, 0), (1, 0)))))

    def test_how_many(self):
        for stands, views in FIVE + [(40, 1), (39, 2), (40, 12), (40, 3), (1, 12), (7, 1), (13, 12)]:
            count = factorial(stands) // factorial(stands // views) if stands % views == 0 else 0
            if count > 400:
                self.quick(self.refused, TooGreat, {"most": 400}, all_windows, stands, views)
                continue
            found = self.quick(all_windows, stands, views)
            self.assertEqual(len(found), count)
            self.assertEqual(sorted(set(found)), list(found))
            self.assertTrue(plain_throughout(found))
            for window in found:
                self.assertIsNone(first_broken_window(window))
        self.assertEqual([len(all_windows(*pair)) for pair in ((5, 5), (6, 2), (6, 3), (4, 2), (40, 1), (3, 2))], [120, 120, 360, 12, 1, 0])

    def test_more_than_400(self):
        for stands, views in ((6, 6), (8, 2), (8, 4), (9, 3), (12, 12), (40, 2), (40, 10), (36, 12), (40, 8), (10, 5)):
            self.quick(self.refused, TooGreat, {"most": 400}, all_windows, stands, views)

    def test_stands_are_parted_into_lots(self):
        for stands, views in ((4, 2), (6, 2), (6, 3), (5, 1), (4, 4)):
            for seen, put in all_windows(stands, views):
                lots = {frozenset(row) for row in put}
                self.assertEqual(sorted(stand for lot in lots for stand in lot), list(range(stands)))
                for lot in lots:
                    self.assertEqual(sorted(seen[stand] for stand in lot), list(range(views)))
                for stand, row in enumerate(put):
                    self.assertIn(stand, row)


class Behind(LifeCase):

    def test_windows_behind_windows(self):
        tried = 0
        for stands, between, views in ((4, 2, 1), (4, 2, 2), (4, 4, 2), (6, 3, 1), (6, 6, 3), (6, 3, 3), (2, 2, 2), (3, 3, 1), (8, 4, 2), (12, 6, 2)):
            firsts = all_windows(stands, between)[::5] if stands < 6 or between == 3 else [window_in_rows(stands, between)]
            for first, second in product(firsts, all_windows(between, views)):
                found = window_behind(stands, between, views, first, second)
                self.assertEqual(found, behind(first, second))
                self.assertEqual(need_window(stands, views, found), found)
                self.assertTrue(plain_throughout(found))
                tried += 1
        self.assertGreater(tried, 200)

    def test_in_whichever_brackets(self):
        for one, two, three in product(all_windows(4, 4)[::5], all_windows(4, 2), all_windows(2, 2)):
            ahead = window_behind(4, 2, 2, window_behind(4, 4, 2, one, two), three)
            self.assertEqual(ahead, window_behind(4, 4, 2, one, window_behind(4, 2, 2, two, three)))

    def test_to_the_letter(self):
        first = ((0, 1, 2, 3), ((0, 1, 2, 3),) * 4)
        second = ((1, 0, 0, 1), ((1, 0), (1, 0), (2, 3), (2, 3)))
        self.assertEqual(window_behind(4, 4, 2, first, second), second)
        last = ((1, 0), ((1, 0), (1, 0)))
        self.assertEqual(window_behind(4, 2, 2, second, last), ((0, 1, 1, 0), ((0, 1), (0, 1), (3, 2), (3, 2))))

    def test_the_errors_in_their_order(self):
        for bad in STRANGE + STRANGE_INTEGERS + [(), STAY + ((),), list(STAY), window_in_rows(4, 4)]:
            self.refused(BadWindow, {"place": ()}, window_behind, 4, 2, 2, bad, None)
            self.refused(BadWindow, {"place": ()}, window_behind, 4, 2, 2, window_in_rows(4, 2), bad)
        self.refused(BadWindow, {"place": (0, 0)}, window_behind, 2, 2, 2, ((1, 0), STAY[1]), None)
        self.refused(BadWindow, {"place": (0, 0)}, window_behind, 2, 2, 2, STAY, ((1, 0), STAY[1]))
        self.refused(BadWindow, {"place": (1, 0, 1)}, window_behind, 2, 2, 2, STAY, ((0, 1), ((0, 0), (0, 1))))
        # All numbers come ahead of both windows; of the second window its stands are the views between.
        self.refused(BadParameter, {"value": 13}, window_behind, 2, 2, 13, None, None)
        self.refused(BadWindow, {"place": ()}, window_behind, 4, 2, 2, window_in_rows(4, 2), window_in_rows(4, 2))

    def test_at_the_bounds(self):
        first, second = window_in_rows(36, 12), window_in_rows(12, 12)
        self.assertEqual(self.quick(window_behind, 36, 12, 12, first, second), behind(first, second))
        self.assertEqual(self.quick(window_behind, 40, 1, 1, window_in_rows(40, 1), window_in_rows(1, 1)), window_in_rows(40, 1))

    def test_only_plain_values_come_back(self):
        def numbers(value):
            return tuple(map(numbers, value)) if isinstance(value, tuple) else Number(value)
        two, stay = Number(2), numbers(STAY)
        for found in (window_land(two), need_window(two, two, stay), window_life(two, two, stay), life_window(two, numbers(((0, (0, 1)), (1, (0, 1))))),
                      all_windows(two, two), window_behind(two, two, two, stay, stay)):
            self.assertTrue(plain_throughout(found))
        self.refused(BadParameter, {"value": MOST}, window_land, MOST)


if __name__ == "__main__":
    unittest.main()
