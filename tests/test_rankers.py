"""[4], [14] Rankers: tables by rankings, that ask which things are greater."""

import unittest

from holdfills.comparers import comparer_done
from holdfills.partings import ranking_of
from holdfills.rankers import count_rankers, need_ranker, ranker_behind, ranker_done, rankers_apart
from raising import Case
from samples import climbs, fillings, named, rankings, rows, see_greater
from tabled import Tables

# It keeps one of two like things, else both.
COMPARER = (((0, (0,)), (1, (0, 1))),)
EXAMPLE = (((0, (0,)), (1, (0, 1)), (1, (1, 0))),)


class Rankers(Tables, Case):

    need = staticmethod(need_ranker)
    act = staticmethod(ranker_done)
    behind = staticmethod(ranker_behind)
    count = staticmethod(count_rankers)
    apart = staticmethod(rankers_apart)
    views = staticmethod(rankings)
    renamings = staticmethod(climbs)
    see = staticmethod(see_greater)

    def test_the_example_does_what_the_comparer_does(self):
        self.assertEqual(need_ranker((2,), (1, 2), EXAMPLE), EXAMPLE)
        for row in rows(4, 2):
            found = ranker_done((2,), (1, 2), EXAMPLE, (0, row))
            self.assertEqual(found, (0, row[:1]) if row[0] == row[1] else (1, row))
            self.assertEqual(found, comparer_done((2,), (1, 2), COMPARER, (0, row)))

    def test_the_greater_one_first(self):
        turn = (((0, (0, 0)), (0, (1, 0)), (0, (1, 0))),)
        self.assertEqual(ranker_done((2,), (2,), turn, (0, (3, 8))), (0, (8, 3)))
        self.assertEqual(ranker_done((2,), (2,), turn, (0, (8, 3))), (0, (8, 3)))
        self.assertEqual(ranker_done((2,), (2,), turn, (0, (8, 8))), (0, (8, 8)))
        self.assertEqual(ranker_behind((2,), (2,), (2,), turn, turn), turn)
        # Ranks stay where they are: each place keeps its thing.
        still = (((0, (0, 0)), (0, (0, 1)), (0, (1, 0))),)
        self.assertEqual(ranker_behind((2,), (2,), (2,), still, turn), turn)
        shape, row = rankers_apart((2,), (2,), still, turn)
        self.assertEqual((shape, row[0] < row[1]), (0, True))

    def test_counts_to_the_letter(self):
        self.assertEqual(count_rankers((2,), (1,)), 4)
        self.assertEqual(count_rankers((3,), (1,)), 2 ** 6 * 3 ** 6)
        self.assertEqual(count_rankers((4,), (1,)), 2 ** 14 * 3 ** 36 * 4 ** 24)
        self.assertEqual(count_rankers((2,), (1, 2)), 2 * 6 * 6)

    def test_it_does_not_do_the_same_behind_renamings_that_turn_an_order_about(self):
        turn = (((0, (0, 0)), (0, (1, 0)), (0, (1, 0))),)
        found = ranker_done((2,), (2,), turn, named((0, (0, 1)), (9, 4)))
        self.assertNotEqual(found, named(ranker_done((2,), (2,), turn, (0, (0, 1))), (9, 4)))

    def test_the_ranking_of_the_things_is_asked(self):
        # Fillings with one ranking are led to one pair of the table.
        table = (tuple((number % 60, (number // 60,)) for number in range(13)),)
        listed = rankings(3)
        for shape, row in fillings((3,), 5):
            found = ranker_done((3,), (1,) * 60, table, (shape, row))
            self.assertEqual(found, (listed.index(ranking_of(row)), (min(row),)))


if __name__ == "__main__":
    unittest.main()
