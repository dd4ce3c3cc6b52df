"""[4], [13] Lots: what they are, what they lead rows to, and which tables of zeros and ones are theirs."""

import unittest
from collections import namedtuple

from holdfills.errors import BadLot, BadParameter, NoRow, TooGreat
from holdfills.lots import all_lots, lot_of, lot_rows, need_lot
from raising import Case
from samples import MOST, Number, STRANGE, STRANGE_INTEGERS, STRANGE_TUPLES
from samples import families, lead_lot, levels, lots, plain_throughout, rows, sets_of


def is_rising(size, answers):
    """Tell whether zeros go to 0, ones to 1, and no answer becomes less when a 0 becomes a 1."""
    table = dict(zip(rows(2, size), answers))
    if table[(0,) * size] != 0 or table[(1,) * size] != 1:
        return False
    return all(table[row] <= table[row[:at] + (1,) + row[at + 1:]] for row in table for at in range(size))


class NeedLot(Case):

    def test_all_tuples_of_up_to_three_sets(self):
        parts = sets_of(3)
        for lot in [()] + [(one,) for one in parts] + [(one, two) for one in parts for two in parts] + [
                (one, two, three) for one in parts for two in parts for three in parts]:
            if lot in lots(3):
                self.assertEqual(need_lot(3, lot), lot)
            else:
                self.refused(BadLot, {"value": lot}, need_lot, 3, lot)

    def test_all_lots_of_four_places(self):
        for lot in lots(4):
            self.assertEqual(need_lot(4, lot), lot)
            if len(lot) > 1:
                turned = lot[::-1]
                self.refused(BadLot, {"value": turned}, need_lot, 4, turned)
            for part in sets_of(4):
                if any(set(one) <= set(part) or set(part) <= set(one) for one in lot):
                    more = tuple(sorted(lot + (part,)))
                    self.refused(BadLot, {"value": more}, need_lot, 4, more)

    def test_places_are_those_of_the_size(self):
        self.assertEqual(need_lot(4, ((3,),)), ((3,),))
        for size in range(5):
            for value in (((size,),), ((0, size),), ((-1,),)):
                self.refused(BadLot, {"value": value}, need_lot, size, value)

    def test_there_is_none_of_no_places(self):
        for value in ((), ((),), ((0,),)):
            self.refused(BadLot, {"value": value}, need_lot, 0, value)

    def test_wrong_values(self):
        wrong = [
            (), ((),), ((0,), ()), ((), (0,)), ((1, 0),), ((0, 0),), ((0,), (0,)), ((0, 1), (0,)), ((0,), (0, 1)),
            ((1,), (0,)), ((0, 1), (1,)), ((0, 1), (0, 1)), [(0,)], ([0],), (0,), (0, 1), ((0,), 1), ((0,), [1]),
            ((0, (1,)),), (((0,),),), ((0, 1.0),), {(0,): 1}, {0: (0,)}, ((0,),) * 1000, ((0, 1, 2),) * 2,
        ]
        wrong += STRANGE + STRANGE_INTEGERS + STRANGE_TUPLES
        wrong += [(value,) for value in STRANGE] + [((value,),) for value in STRANGE]
        wrong += [((0,), value) for value in STRANGE] + [((0, value),) for value in STRANGE + STRANGE_INTEGERS]
        for value in wrong:
            self.refused(BadLot, {"value": value}, need_lot, 3, value)
            self.refused(BadLot, {"value": value}, lot_rows, 3, value)

    def test_only_plain_values_come_back(self):
        pair = namedtuple("pair", "one other")
        found = need_lot(Number(3), pair(pair(Number(0), Number(1)), (Number(2),)))
        self.assertEqual(found, ((0, 1), (2,)))
        self.assertTrue(plain_throughout(found))


class AllLots(Case):

    def test_how_many(self):
        self.assertEqual([len(all_lots(size)) for size in range(5)], [0, 1, 4, 18, 166])

    def test_all_of_them_ascending(self):
        for size in range(5):
            self.assertEqual(all_lots(size), tuple(lots(size)))
            self.assertTrue(plain_throughout(all_lots(size)))
            self.assertEqual(all_lots(Number(size)), all_lots(size))

    def test_to_the_letter(self):
        self.assertEqual(all_lots(0), ())
        self.assertEqual(all_lots(1), (((0,),),))
        self.assertEqual(all_lots(2), (((0,),), ((0,), (1,)), ((0, 1),), ((1,),)))


class LotRows(Case):

    def test_all_lots_at_all_rows(self):
        for size in range(5):
            for lot in lots(size):
                self.assertEqual(lot_rows(size, lot), tuple(lead_lot(lot, row) for row in rows(2, size)))

    def test_to_the_letter(self):
        self.assertEqual(lot_rows(2, ((0,),)), (0, 0, 1, 1))
        self.assertEqual(lot_rows(2, ((0,), (1,))), (0, 1, 1, 1))
        self.assertEqual(lot_rows(2, ((0, 1),)), (0, 0, 0, 1))
        self.assertEqual(lot_rows(3, ((0, 1), (0, 2), (1, 2))), (0, 0, 0, 1, 0, 1, 1, 1))
        self.assertTrue(plain_throughout(lot_rows(3, ((Number(0), 1),))))


class LotOf(Case):

    def test_it_undoes_lot_rows(self):
        for size in range(5):
            for lot in lots(size):
                self.assertEqual(lot_of(size, lot_rows(size, lot)), lot)

    def test_exactly_the_rising_tables_are_those_of_lots(self):
        for size in range(5):
            found = 0
            for answers in rows(2, 2 ** size) if size < 4 else self.some_tables():
                if is_rising(size, answers):
                    found += 1
                    lot = lot_of(size, answers)
                    self.assertIn(lot, lots(size))
                    self.assertTrue(plain_throughout(lot))
                    self.assertEqual(lot_rows(size, lot), answers)
                else:
                    self.refused(NoRow, {}, lot_of, size, answers)
            if size < 4:
                self.assertEqual(found, (0, 1, 4, 18)[size])

    def some_tables(self):
        """Return the tables of four places that differ in at most one answer from that of a lot."""
        whole = {tuple(lead_lot(lot, row) for row in rows(2, 4)) for lot in lots(4)}
        turned = {table[:at] + (1 - table[at],) + table[at + 1:] for table in whole for at in range(16)}
        return sorted(whole | turned | {(0,) * 16, (1,) * 16})

    def test_none_of_no_places(self):
        self.refused(NoRow, {}, lot_of, 0, (0,))
        self.refused(NoRow, {}, lot_of, 0, (1,))

    def test_wrong_tables(self):
        good = (0, 0, 1, 1)
        wrong = [(), (0,), good[:3], good + (1,), good * 2, list(good), (0, 0, 1, 2), (0, 0, -1, 1), "0011", b"0011",
                 ((0, 0), (0, 1)), (0, 0, 1, 1.0), (0, 0, 1, True), (False, 0, 1, 1), {0: 0, 1: 0, 2: 1, 3: 1}, 4,
                 (0, 2, 1, 0), (5, 0, 0, 0)]
        wrong += STRANGE + STRANGE_INTEGERS + STRANGE_TUPLES
        for at in range(4):
            wrong += [good[:at] + (value,) + good[at + 1:] for value in STRANGE + STRANGE_INTEGERS + [(), (0,)]]
        for value in wrong:
            self.refused(BadParameter, {"value": value}, lot_of, 2, value)
        for value in ((), (0, 1), 0, None):
            self.refused(BadParameter, {"value": value}, lot_of, 0, value)

    def test_plain_values(self):
        found = lot_of(2, tuple(Number(answer) for answer in (0, 0, 1, 1)))
        self.assertEqual(found, ((0,),))
        self.assertTrue(plain_throughout(found))


class NeverTurningAnOrderAbout(Case):

    def test_what_does_the_same_behind_such_renamings_is_exactly_one_lot(self):
        for size in range(4):
            found = families((size,), (1,), size, levels)
            told = [{(many, (0, row)): (0, (lead_lot(lot, row),)) for many in range(size + 1) for row in rows(many, size)}
                    for lot in all_lots(size)]
            self.assertEqual(len(found), len(told))
            for family in found:
                self.assertEqual(told.count(family), 1)


class Sizes(Case):

    def test_the_size_comes_first(self):
        functions = ((need_lot, (None,)), (lot_rows, (None,)), (lot_of, (None,)), (all_lots, ()))
        for function, rest in functions:
            for size in range(5, 13):
                self.refused(TooGreat, {"most": 4}, function, size, *rest)
            for value in STRANGE + STRANGE_INTEGERS + STRANGE_TUPLES + [13, MOST, (), (4,)]:
                self.refused(BadParameter, {"value": value}, function, value, *rest)
        self.refused(BadLot, {"value": None}, need_lot, 4, None)
        self.refused(BadLot, {"value": None}, lot_rows, 4, None)
        self.refused(BadParameter, {"value": None}, lot_of, 4, None)


if __name__ == "__main__":
    unittest.main()
