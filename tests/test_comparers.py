"""[4], [14] Comparers: tables by partings, that ask which things are alike."""

import unittest

from holdfills.comparers import comparer_behind, comparer_done, comparers_apart, count_comparers, need_comparer
from holdfills.partings import parting_of
from raising import Case
from samples import fillings, injections, named, partings, rows, see_alike, tables
from tabled import Tables

# It keeps one of two like things, else both.
EXAMPLE = (((0, (0,)), (1, (0, 1))),)


class Comparers(Tables, Case):

    need = staticmethod(need_comparer)
    act = staticmethod(comparer_done)
    behind = staticmethod(comparer_behind)
    count = staticmethod(count_comparers)
    apart = staticmethod(comparers_apart)
    views = staticmethod(partings)
    renamings = staticmethod(injections)
    see = staticmethod(see_alike)

    def test_the_example(self):
        self.assertEqual(need_comparer((2,), (1, 2), EXAMPLE), EXAMPLE)
        for one, other in rows(4, 2):
            expected = (0, (one,)) if one == other else (1, (one, other))
            self.assertEqual(comparer_done((2,), (1, 2), EXAMPLE, (0, (one, other))), expected)
        self.assertEqual(count_comparers((2,), (1, 2)), (1 + 1) * (2 + 4))

    def test_the_example_and_a_program(self):
        # What keeps both whatever they are is told apart by like things alone.
        both = (((1, (0, 0)), (1, (0, 1))),)
        shape, row = comparers_apart((2,), (1, 2), EXAMPLE, both)
        self.assertEqual((shape, len(set(row))), (0, 1))
        twice = comparer_behind((2,), (1, 2), (1, 2), EXAMPLE, (((0, (0,)),), ((0, (0,)), (1, (1, 0)))))
        self.assertEqual(twice, (((0, (0,)), (1, (1, 0))),))

    def test_counts_to_the_letter(self):
        self.assertEqual(count_comparers((2,), (1,)), 2)
        self.assertEqual(count_comparers((3,), (1,)), 1 * 2 * 2 * 2 * 3)
        self.assertEqual(count_comparers((4,), (1,)), 2 ** 7 * 3 ** 6 * 4)
        self.assertEqual(count_comparers((4, 0, 1), (0, 1)), 2 * 3 ** 7 * 4 ** 6 * 5 * 1 * 2)

    def test_it_does_not_do_the_same_behind_renamings_that_make_things_alike(self):
        found = comparer_done((2,), (1, 2), EXAMPLE, named((0, (0, 1)), (5, 5)))
        self.assertNotEqual(found, named(comparer_done((2,), (1, 2), EXAMPLE, (0, (0, 1))), (5, 5)))

    def test_the_parting_of_the_things_is_asked(self):
        # Fillings with one parting are led to one pair of the table.
        table = (tuple((number, ()) for number in range(15)),)
        listed = partings(4)
        for filling in fillings((4,), 4):
            self.assertEqual(comparer_done((4,), (0,) * 15, table, filling), (listed.index(parting_of(filling[1])), ()))

    def test_all_of_one_pair_of_holders(self):
        self.assertEqual(len(tables(partings, (3,), (1,))), count_comparers((3,), (1,)))


if __name__ == "__main__":
    unittest.main()
