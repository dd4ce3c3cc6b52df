"""[12] Partings and rankings: what they are, those of rows, and all of few places."""

import unittest
from collections import namedtuple

from holdfills.errors import BadParameter, BadParting, BadRanking, TooGreat
from holdfills.partings import all_partings, all_rankings, need_parting, need_ranking, parting_of, ranking_of
from raising import Case
from samples import MOST, Number, STRANGE, STRANGE_INTEGERS, STRANGE_TUPLES
from samples import climbs, injections, is_dense, is_grown, named, partings, plain_throughout, rankings, rows

NEED = ((need_parting, BadParting), (need_ranking, BadRanking))
SEE = (parting_of, ranking_of)
ALL = (all_partings, all_rankings)


class Need(Case):

    def test_to_the_letter(self):
        self.assertEqual(need_parting((0, 1, 0, 2)), (0, 1, 0, 2))
        self.assertEqual(need_ranking((1, 0, 1, 2)), (1, 0, 1, 2))
        self.refused(BadParting, {"value": (1, 0, 1, 2)}, need_parting, (1, 0, 1, 2))

    def test_all_rows_of_up_to_five_numbers(self):
        for size in range(6):
            for row in rows(size + 1, size):
                for (function, error), fits in zip(NEED, (is_grown(row), is_dense(row))):
                    if fits:
                        self.assertEqual(function(row), row)
                    else:
                        self.refused(error, {"value": row}, function, row)

    def test_rows_of_twelve_and_of_thirteen_places(self):
        ascending = tuple(range(12))
        for function, error in NEED:
            for row in (ascending, (0,) * 12, (0, 1) * 6, ascending[:11] + (5,)):
                self.assertEqual(function(row), row)
            for row in ((0,) * 13, tuple(range(13)), ascending[:11] + (12,), ascending[1:] + (12,), (0,) * 1000):
                self.refused(error, {"value": row}, function, row)
        turned = ascending[::-1]
        self.assertEqual(need_ranking(turned), turned)
        self.refused(BadParting, {"value": turned}, need_parting, turned)

    def test_none_at_all(self):
        self.assertEqual(need_parting(()), ())
        self.assertEqual(need_ranking(()), ())

    def test_wrong_values(self):
        wrong = STRANGE + STRANGE_INTEGERS + STRANGE_TUPLES + [0, 1, (1,), (0, 2), (0, -1), (-1, 0), (0, MOST)]
        wrong += [(0, 1, value) for value in STRANGE + STRANGE_INTEGERS + [()]] + [[0, 1], ((0, 1),), "01", b"\x00\x01"]
        for function, error in NEED:
            for value in wrong:
                self.refused(error, {"value": value}, function, value)

    def test_only_plain_values_come_back(self):
        row = namedtuple("row", "a b c")(Number(0), Number(1), Number(0))
        for function, _ in NEED:
            self.assertEqual(function(row), (0, 1, 0))
            self.assertTrue(plain_throughout(function(row)))


class OfRows(Case):

    def test_what_they_tell_of_all_rows(self):
        for size in range(5):
            for row in rows(4, size):
                parting, ranking = parting_of(row), ranking_of(row)
                self.assertIn(parting, partings(size))
                self.assertEqual(ranking, tuple(len({less for less in row if less < thing}) for thing in row))
                for one in range(size):
                    for other in range(size):
                        self.assertEqual(parting[one] == parting[other], row[one] == row[other])
                        self.assertEqual(ranking[one] < ranking[other], row[one] < row[other])

    def test_to_the_letter(self):
        self.assertEqual(parting_of((7, 5, 7, 6)), (0, 1, 0, 2))
        self.assertEqual(ranking_of((7, 5, 7, 6)), (2, 0, 2, 1))
        self.assertEqual(parting_of((MOST, 0, MOST)), (0, 1, 0))
        self.assertEqual(ranking_of((MOST, 0, MOST, MOST - 1)), (2, 0, 2, 1))
        self.assertEqual((parting_of(()), ranking_of(())), ((), ()))

    def test_rows_of_twelve_things(self):
        row = tuple(MOST - at * at for at in range(12))
        self.assertEqual(parting_of(row), tuple(range(12)))
        self.assertEqual(ranking_of(row), tuple(range(11, -1, -1)))
        self.assertEqual(parting_of((5,) * 12), (0,) * 12)
        longer = row + (0,)
        for function in SEE:
            self.refused(BadParameter, {"value": longer}, function, longer)

    def test_they_are_their_own(self):
        for size in range(5):
            for row in partings(size):
                self.assertEqual(parting_of(row), row)
            for row in rankings(size):
                self.assertEqual(ranking_of(row), row)

    def test_renamings_that_keep_them(self):
        for row in rows(3, 3):
            for names in injections(3, 5):
                self.assertEqual(parting_of(named((0, row), names)[1]), parting_of(row))
            for names in climbs(3, 5):
                self.assertEqual(ranking_of(named((0, row), names)[1]), ranking_of(row))

    def test_wrong_values(self):
        wrong = STRANGE + STRANGE_INTEGERS + STRANGE_TUPLES + [0, 12, [0, 1], ((0, 1),), "01", (0, 0.0)]
        wrong += [(0, 1, value) for value in STRANGE + [-1, MOST + 1, ()]]
        for function in SEE:
            for value in wrong:
                self.refused(BadParameter, {"value": value}, function, value)
            self.assertEqual(len(function((MOST, 0))), 2)

    def test_only_plain_values_come_back(self):
        for function in SEE:
            found = function((Number(3), Number(3), 5))
            self.assertEqual(found, (0, 0, 1))
            self.assertTrue(plain_throughout(found))


class All(Case):

    def test_how_many(self):
        self.assertEqual([len(all_partings(size)) for size in range(5)], [1, 1, 2, 5, 15])
        self.assertEqual([len(all_rankings(size)) for size in range(5)], [1, 1, 3, 13, 75])

    def test_all_of_them_ascending(self):
        for size in range(5):
            self.assertEqual(all_partings(size), tuple(partings(size)))
            self.assertEqual(all_rankings(size), tuple(rankings(size)))
            for function in ALL:
                self.assertEqual(list(function(size)), sorted(set(function(size))))
                self.assertTrue(plain_throughout(function(size)))
                self.assertEqual(function(Number(size)), function(size))

    def test_to_the_letter(self):
        self.assertEqual(all_partings(3), ((0, 0, 0), (0, 0, 1), (0, 1, 0), (0, 1, 1), (0, 1, 2)))
        self.assertEqual(all_rankings(2), ((0, 0), (0, 1), (1, 0)))
        self.assertEqual((all_partings(0), all_rankings(0)), (((),), ((),)))

    def test_they_are_those_of_rows(self):
        for size in range(5):
            self.assertEqual(sorted({parting_of(row) for row in rows(5, size)}), list(all_partings(size)))
            self.assertEqual(sorted({ranking_of(row) for row in rows(5, size)}), list(all_rankings(size)))

    def test_sizes_that_are_too_great_or_none(self):
        for function in ALL:
            for size in range(5, 13):
                self.refused(TooGreat, {"most": 4}, function, size)
            for value in STRANGE + STRANGE_INTEGERS + STRANGE_TUPLES + [13, 60, MOST, (), (4,)]:
                self.refused(BadParameter, {"value": value}, function, value)


if __name__ == "__main__":
    unittest.main()
