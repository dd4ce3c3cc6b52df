"""[7], [12], [16] Sorting: sorters, rows that are not sorted, and networks of steps."""

import unittest
from itertools import combinations, product

from holdfills.errors import BadParameter, BadProgram, NoRow, TooGreat
from holdfills.lots import all_lots
from holdfills.networks import is_sorter, network, sorter, unsorted_row
from holdfills.risers import need_riser, riser_done
from raising import Case
from samples import MOST, Number, STRANGE, STRANGE_INTEGERS, STRANGE_TUPLES, lead_riser, lots, plain_throughout
from samples import risers, rows

# What changes nothing, for each size.
STILL = {size: ((0, tuple(((place,),) for place in range(size))),) for size in range(5)}
# Networks that sort, and one step less than they have.
SORTING = {2: ((0, 1),), 3: ((0, 1), (1, 2), (0, 1)), 4: ((0, 1), (2, 3), (0, 2), (1, 3), (1, 2))}


def pairs_of(size):
    return list(combinations(range(size), 2))


def step_by_step(row, steps):
    """Return what comes of a row if, pair after pair, the lesser thing is put to the first place."""
    things = list(row)
    for one, other in steps:
        things[one], things[other] = min(things[one], things[other]), max(things[one], things[other])
    return tuple(things)


class Sorter(Case):

    def test_it_sorts_all_rows(self):
        for size in range(5):
            riser = sorter(size)
            self.assertEqual(need_riser((size,), (size,), riser), riser)
            for row in rows(5, size):
                self.assertEqual(riser_done((size,), (size,), riser, (0, row)), (0, tuple(sorted(row))))
            self.assertEqual(sorter(Number(size)), riser)
            self.assertTrue(plain_throughout(sorter(Number(size))))

    def test_to_the_letter(self):
        self.assertEqual(sorter(0), ((0, ()),))
        self.assertEqual(sorter(1), ((0, (((0,),),)),))
        self.assertEqual(sorter(2), ((0, (((0, 1),), ((0,), (1,)))),))
        self.assertEqual(sorter(3), ((0, (((0, 1, 2),), ((0, 1), (0, 2), (1, 2)), ((0,), (1,), (2,)))),))

    def test_there_is_one_for_each_size(self):
        for size in range(4):
            sorting = [riser for riser in risers((size,), (size,)) if is_sorter(size, riser)]
            self.assertEqual(sorting, [sorter(size)])


class IsSorter(Case):

    def test_against_all_rows(self):
        for size in range(3):
            for riser in risers((size,), (size,)):
                sorts = all(lead_riser(riser, (0, row)) == (0, tuple(sorted(row))) for row in rows(size + 1, size))
                self.assertIs(is_sorter(size, riser), sorts)

    def test_zeros_and_ones_tell_it(self):
        for size in (3, 4):
            listed = risers((3,), (3,))[::11] if size == 3 else []
            listed += [network(size, steps) for steps in product(pairs_of(size), repeat=3)]
            for riser in listed:
                bits = all(lead_riser(riser, (0, row))[1] == tuple(sorted(row)) for row in rows(2, size))
                whole = all(lead_riser(riser, (0, row))[1] == tuple(sorted(row)) for row in rows(size, size))
                self.assertEqual(bits, whole)
                self.assertIs(is_sorter(size, riser), whole)

    def test_one_lot_that_is_another_one(self):
        for size in range(1, 5):
            told = sorter(size)[0][1]
            for place in range(size):
                for lot in lots(size):
                    riser = ((0, told[:place] + (lot,) + told[place + 1:]),)
                    self.assertIs(is_sorter(size, riser), lot == told[place])

    def test_the_edges(self):
        for size in range(5):
            self.assertIs(is_sorter(size, sorter(size)), True)
            self.assertIs(is_sorter(size, STILL[size]), size < 2)
            self.assertIs(self.quick(is_sorter, size, sorter(size)), True)


class UnsortedRow(Case):

    def test_a_row_that_is_not_sorted(self):
        listed = [(size, riser) for size in range(4) for riser in risers((size,), (size,))[::5]]
        listed += [(4, ((0, tuple(all_lots(4)[(turn * place + turn) % 166] for place in range(4))),)) for turn in range(166)]
        for size, riser in listed:
            if riser == sorter(size):
                self.refused(NoRow, {}, unsorted_row, size, riser)
            else:
                self.check_row(size, riser)

    def check_row(self, size, riser):
        row = unsorted_row(size, riser)
        self.assertIn(row, rows(2, size))
        self.assertTrue(plain_throughout(row))
        self.assertNotEqual(lead_riser(riser, (0, row)), (0, tuple(sorted(row))))

    def test_where_one_lot_is_another_one(self):
        for size in range(1, 5):
            told = sorter(size)[0][1]
            for place in range(size):
                for lot in lots(size):
                    if lot != told[place]:
                        self.check_row(size, ((0, told[:place] + (lot,) + told[place + 1:]),))

    def test_sorters_have_none(self):
        for size in range(5):
            self.refused(NoRow, {}, unsorted_row, size, sorter(size))
        self.refused(NoRow, {}, unsorted_row, 1, STILL[1])
        self.assertEqual(unsorted_row(2, STILL[2]), (1, 0))
        self.quick(unsorted_row, 4, network(4, SORTING[4][:4]))


class Network(Case):

    def test_steps_are_done_one_after_the_other(self):
        for size in range(5):
            for length in range(4 if size < 4 else 3):
                for steps in product(pairs_of(size), repeat=length):
                    riser = network(size, steps)
                    self.assertEqual(need_riser((size,), (size,), riser), riser)
                    for row in rows(3, size):
                        self.assertEqual(lead_riser(riser, (0, row)), (0, step_by_step(row, steps)))

    def test_to_the_letter(self):
        riser = network(3, ((0, 1), (1, 2)))
        self.assertEqual(riser_done((3,), (3,), riser, (0, (1, 1, 0))), (0, (1, 0, 1)))
        self.assertEqual(riser, ((0, (((0, 1),), ((0, 2), (1, 2)), ((0,), (1,), (2,)))),))
        self.assertEqual(network(2, ((0, 1),)), sorter(2))
        self.assertEqual(network(2, ()), STILL[2])
        self.assertIs(is_sorter(3, riser), False)
        self.assertNotEqual(lead_riser(riser, (0, unsorted_row(3, riser)))[1], tuple(sorted(unsorted_row(3, riser))))

    def test_networks_that_sort(self):
        for size, steps in SORTING.items():
            self.assertEqual(network(size, steps), sorter(size))
            self.assertEqual(network(size, steps + tuple(pairs_of(size))), sorter(size))
            for at in range(len(steps)):
                less = network(size, steps[:at] + steps[at + 1:])
                self.assertIs(is_sorter(size, less), False)

    def test_without_steps_nothing_is_changed(self):
        for size in range(5):
            self.assertEqual(network(size, ()), STILL[size])

    def test_sixty_steps_and_one_more(self):
        steps = tuple(pairs_of(4)[(number * 5) % 6] for number in range(60))
        riser = self.quick(network, 4, steps)
        for row in rows(4, 4):
            self.assertEqual(lead_riser(riser, (0, row)), (0, step_by_step(row, steps)))
        longer = steps + ((0, 1),)
        self.refused(BadParameter, {"value": longer}, network, 4, longer)
        longer = longer * 100
        self.refused(BadParameter, {"value": longer}, network, 4, longer)

    def test_wrong_steps(self):
        wrong = [((1, 0),), ((0, 0),), ((0, 3),), ((-1, 0),), ((0, 1, 2),), ((0,),), ([0, 1],), [(0, 1)], (0, 1), {(0, 1): 1},
                 ((0, 1), (2, 1)), ((0, 1), None), (((0,), (1,)),), ((0, MOST),), ((0, 1.0),), ((False, 1),), ((0, True),),
                 ("01",), (b"01",), ((0, 1), ()), (({0}, {1}),)]
        wrong += STRANGE + STRANGE_INTEGERS + STRANGE_TUPLES
        wrong += [((0, 1), value) for value in STRANGE] + [((0, value),) for value in STRANGE + STRANGE_INTEGERS]
        wrong += [((value, 2),) for value in STRANGE + STRANGE_INTEGERS]
        for steps in wrong:
            self.refused(BadParameter, {"value": steps}, network, 3, steps)
        for size in (0, 1):
            steps = ((0, 1),)
            self.refused(BadParameter, {"value": steps}, network, size, steps)
        self.assertEqual(network(3, ((0, 2),)), ((0, (((0, 2),), ((1,),), ((0,), (2,)))),))

    def test_only_plain_values_come_back(self):
        self.assertTrue(plain_throughout(network(Number(2), ((Number(0), Number(1)),))))


class Sizes(Case):

    def test_the_size_comes_first(self):
        for function, rest in ((is_sorter, (None,)), (unsorted_row, (None,)), (network, (None,)), (sorter, ())):
            for size in range(5, 13):
                self.refused(TooGreat, {"most": 4}, function, size, *rest)
            for value in STRANGE + STRANGE_INTEGERS + STRANGE_TUPLES + [13, 60, MOST, (), (4,)]:
                self.refused(BadParameter, {"value": value}, function, value, *rest)

    def test_risers_are_checked_between_the_holders_of_the_size(self):
        for function in (is_sorter, unsorted_row):
            for bad in STRANGE + STRANGE_INTEGERS + [(), sorter(2) * 2, list(sorter(2))]:
                self.refused(BadProgram, {"place": ()}, function, 2, bad)
            for bad in STRANGE + STRANGE_TUPLES + [(0, ()), (1, (((0,),), ((0,),))), (0, (((0,),),)), sorter(2)]:
                self.refused(BadProgram, {"place": (0,)}, function, 2, (bad,))
            for bad in STRANGE + STRANGE_TUPLES + [(), ((2,),), ((0,), (0, 1)), 0]:
                self.refused(BadProgram, {"place": (0, 1)}, function, 2, ((0, (((0,),), bad)),))
            for size in range(5):
                for other in range(5):
                    if size != other:
                        self.refused(BadProgram, {"place": (0,)}, function, size, sorter(other))
            self.refused(BadProgram, {"place": (0, 0)}, function, 2, ((0, (((2,),), ((0,),))),))


if __name__ == "__main__":
    unittest.main()
