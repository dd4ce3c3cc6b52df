"""[7], [15] What is needed: tables as tables of another kind, and the plainest kind that will do."""

import unittest
from itertools import product

from holdfills.comparers import comparer_done, need_comparer
from holdfills.errors import BadHolder, BadProgram, TooGreat
from holdfills.lots import all_lots
from holdfills.needs import as_comparer, as_riser, comparer_as_ranker, needs_only, riser_as_ranker
from holdfills.rankers import need_ranker, ranker_done
from holdfills.risers import need_riser, riser_done
from raising import Case
from samples import MOST, Number, STRANGE, STRANGE_INTEGERS, STRANGE_TUPLES
from samples import fillings, lead, lead_riser, lead_table, partings, plain_throughout, programs, rankings, risers
from samples import rows, see_alike, see_greater, tables

HERE = [(), (0,), (1,), (2,), (0, 1), (1, 1), (2, 0), (2, 1)]
THERE = [(), (0,), (1,), (0, 1), (2,)]
GREAT = (12,) * 60
# It keeps one of two like things, else both.
EXAMPLE = (((0, (0,)), (1, (0, 1))),)
EXAMPLE_AS_RANKER = (((0, (0,)), (1, (0, 1)), (1, (1, 0))),)
SORTER = ((0, (((0, 1),), ((0,), (1,)))),)
SORTER_AS_RANKER = (((0, (0, 0)), (0, (0, 1)), (0, (0, 1))),)


def lead_comparer(comparer, filling):
    return lead_table(partings, see_alike, comparer, filling)


def lead_ranker(ranker, filling):
    return lead_table(rankings, see_greater, ranker, filling)


def as_told(act, table, holder):
    """Return what a table does with all fillings that can tell any two tables apart."""
    most = max(holder, default=0)
    return tuple(act(table, filling) for filling in fillings(holder, most))


class OfAnotherKind(Case):

    def test_a_program_as_a_comparer(self):
        for holder in HERE + [(3,)]:
            for goal in THERE:
                for program in programs(holder, goal):
                    found = as_comparer(holder, goal, program)
                    self.assertEqual(need_comparer(holder, goal, found), found)
                    for filling in fillings(holder, 3):
                        self.assertEqual(lead_comparer(found, filling), lead(program, filling))

    def test_a_program_as_a_riser(self):
        for holder in HERE + [(3,)]:
            for goal in THERE:
                for program in programs(holder, goal):
                    found = as_riser(holder, goal, program)
                    self.assertEqual(need_riser(holder, goal, found), found)
                    for filling in fillings(holder, 3):
                        self.assertEqual(lead_riser(found, filling), lead(program, filling))

    def test_a_comparer_as_a_ranker(self):
        for holder, goal in list(product(HERE, THERE)) + [((3,), (0, 1))]:
            for comparer in tables(partings, holder, goal)[:200]:
                found = comparer_as_ranker(holder, goal, comparer)
                self.assertEqual(need_ranker(holder, goal, found), found)
                for filling in fillings(holder, 3):
                    self.assertEqual(lead_ranker(found, filling), lead_comparer(comparer, filling))

    def test_a_riser_as_a_ranker(self):
        for holder, goal in list(product(HERE, THERE)) + [((3,), (0, 1))]:
            for riser in risers(holder, goal):
                found = riser_as_ranker(holder, goal, riser)
                self.assertEqual(need_ranker(holder, goal, found), found)
                for filling in fillings(holder, 3):
                    self.assertEqual(lead_ranker(found, filling), lead_riser(riser, filling))

    def test_of_four_places(self):
        holder, goal = (4, 4), (1, 4)
        for turn in range(0, 166, 33):
            program = ((1, tuple((turn * place + turn) % 4 for place in range(4))), (0, (turn % 4,)))
            riser = ((1, all_lots(4)[turn:turn + 4] if turn < 160 else all_lots(4)[:4]), (0, all_lots(4)[turn:turn + 1]))
            comparer = tuple(tuple((1, tuple((turn + place) % len(set(view)) for place in range(4))) if at % 2
                                   else (0, (len(set(view)) - 1,)) for at, view in enumerate(partings(4)))
                             for _ in range(2))
            plain = as_comparer(holder, goal, program), as_riser(holder, goal, program)
            rising = riser_as_ranker(holder, goal, riser)
            comparing = comparer_as_ranker(holder, goal, comparer)
            for filling in fillings(holder, 4):
                self.assertEqual(lead_comparer(plain[0], filling), lead(program, filling))
                self.assertEqual(lead_riser(plain[1], filling), lead(program, filling))
                self.assertEqual(lead_ranker(rising, filling), lead_riser(riser, filling))
                self.assertEqual(lead_ranker(comparing, filling), lead_comparer(comparer, filling))

    def test_to_the_letter(self):
        self.assertEqual(comparer_as_ranker((2,), (1, 2), EXAMPLE), EXAMPLE_AS_RANKER)
        self.assertEqual(riser_as_ranker((2,), (2,), SORTER), SORTER_AS_RANKER)
        self.assertEqual(as_comparer((2, 0), (2, 0), ((0, (1, 0)), (1, ()))), (((0, (0, 0)), (0, (1, 0))), ((1, ()),)))
        self.assertEqual(as_riser((2, 0), (2, 0), ((0, (1, 0)), (1, ()))), ((0, (((1,),), ((0,),))), (1, ())))

    def test_the_edges(self):
        for function in (as_comparer, as_riser, comparer_as_ranker, riser_as_ranker):
            self.assertEqual(function((), (), ()), ())
            self.assertEqual(function((), GREAT, ()), ())
        self.assertEqual(as_comparer((0,), (0,), ((0, ()),)), (((0, ()),),))
        self.assertEqual(as_riser((0,), (0,), ((0, ()),)), ((0, ()),))
        self.assertEqual(comparer_as_ranker((0,), (0,), (((0, ()),),)), (((0, ()),),))
        self.assertEqual(riser_as_ranker((0,), (0,), ((0, ()),)), (((0, ()),),))
        # To a shape without places each ranking is led, however many there are.
        self.assertEqual(riser_as_ranker((4,), (0,), ((0, ()),)), (((0, ()),) * 75,))


class NeedsOnly(Case):

    def check_all(self, holder, goal, listed):
        """Check the rankers against all programs, comparers and risers, by what all do with fillings."""
        done = [("plain", {as_told(lead, table, holder): table for table in programs(holder, goal)}),
                ("comparer", {as_told(lead_comparer, table, holder): table for table in tables(partings, holder, goal)}),
                ("riser", {as_told(lead_riser, table, holder): table for table in risers(holder, goal)})]
        found = {}
        for ranker in listed:
            told = as_told(lead_ranker, ranker, holder)
            expected = [(word, known[told]) for word, known in done if told in known] + [("ranker", ranker)]
            answer = needs_only(holder, goal, ranker)
            self.assertEqual(answer, expected[0])
            self.assertTrue(plain_throughout(answer[1]))
            found[answer[0]] = found.get(answer[0], 0) + 1
            # What is a comparer and a riser is a program.
            self.assertEqual(told in done[1][1] and told in done[2][1], told in done[0][1])
        return found

    def test_all_rankers_of_small_holders(self):
        for holder in HERE:
            for goal in THERE:
                self.check_all(holder, goal, tables(rankings, holder, goal))

    def test_how_many_need_what(self):
        found = self.check_all((2,), (1,), tables(rankings, (2,), (1,)))
        self.assertEqual(found, {"plain": 2, "riser": 2})
        found = self.check_all((2,), (0, 1), tables(rankings, (2,), (0, 1)))
        self.assertEqual(found, {"plain": 3, "riser": 2, "comparer": 2 * 3 - 3, "ranker": 2 * 9 - 8})
        found = self.check_all((2, 2), (1,), tables(rankings, (2, 2), (1,)))
        self.assertEqual(found, {"plain": 4, "riser": 12})

    def test_three_places(self):
        kinds = [comparer_as_ranker((3,), (1,), table) for table in tables(partings, (3,), (1,))]
        kinds += [riser_as_ranker((3,), (1,), table) for table in risers((3,), (1,))]
        for ranker in list(kinds):
            pairs = ranker[0]
            for at, view in enumerate(rankings(3)):
                kinds += [(pairs[:at] + ((0, (rank,)),) + pairs[at + 1:],) for rank in range(len(set(view)))]
        found = self.check_all((3,), (1,), sorted(set(kinds)))
        self.assertEqual({word: found[word] for word in ("plain", "comparer", "riser")},
                         {"plain": 3, "comparer": 24 - 3, "riser": 18 - 3})

    def test_to_the_letter(self):
        self.assertEqual(needs_only((2,), (1, 2), EXAMPLE_AS_RANKER), ("comparer", EXAMPLE))
        self.assertEqual(needs_only((2,), (2,), SORTER_AS_RANKER), ("riser", SORTER))
        turned = (((0, (0, 0)), (0, (1, 0)), (0, (1, 0))),)
        self.assertEqual(needs_only((2,), (2,), turned), ("riser", ((0, (((0,), (1,)), ((0, 1),))),)))
        self.assertEqual(needs_only((2,), (2,), (((0, (0, 0)), (0, (1, 0)), (0, (0, 1))),)), ("plain", ((0, (1, 0)),)))
        # The lesser one of two unlike things, none of two like ones.
        strange = (((0, ()), (1, (0,)), (1, (0,))),)
        self.assertEqual(needs_only((2,), (0, 1), strange), ("ranker", strange))

    def test_one_kind_for_all_shapes(self):
        # Of two shapes the one needs a comparer, the other one a riser: together they need a ranker.
        goal = (0, 2)
        plain = ((1, (0, 0)), (1, (0, 1)), (1, (1, 0)))
        comparer = ((0, ()), (1, (0, 1)), (1, (1, 0)))
        riser = ((1, (0, 0)), (1, (0, 1)), (1, (0, 1)))
        words = {}
        for one in (plain, comparer, riser):
            for other in (plain, comparer, riser):
                words[(one, other)] = needs_only((2, 2), goal, (one, other))[0]
        self.assertEqual(list(words.values()), ["plain", "comparer", "riser", "comparer", "comparer", "ranker",
                                                "riser", "ranker", "riser"])

    def test_the_edges(self):
        self.assertEqual(needs_only((), (), ()), ("plain", ()))
        self.assertEqual(needs_only((), GREAT, ()), ("plain", ()))
        self.assertEqual(needs_only((0, 0), (0, 1), (((0, ()),),) * 2), ("plain", ((0, ()), (0, ()))))
        self.assertEqual(needs_only((4,), (0,), (((0, ()),) * 75,)), ("plain", ((0, ()),)))
        pairs = ((0, ()),) * 74 + ((1, ()),)
        self.assertEqual(needs_only((4,), (0, 0), (pairs,)), ("ranker", (pairs,)))

    def test_two_out_of_seventy_five(self):
        # A ranker of four places that is a riser but for one ranking.
        for turn in range(0, 166, 55):
            lot = all_lots(4)[turn]
            ranker = riser_as_ranker((4,), (1,), ((0, (lot,)),))
            word = "plain" if len(lot) == len(lot[0]) == 1 else "riser"
            self.assertEqual(needs_only((4,), (1,), ranker)[0], word)
            for at, view in enumerate(rankings(4)):
                for rank in range(len(set(view))):
                    pairs = ranker[0][:at] + ((0, (rank,)),) + ranker[0][at + 1:]
                    if pairs != ranker[0]:
                        self.assertEqual(needs_only((4,), (1,), (pairs,)), ("ranker", (pairs,)))


class Orders(Case):

    def test_too_great_behind_all_holders_ahead_of_all_tables(self):
        functions = (as_comparer, as_riser, comparer_as_ranker, riser_as_ranker, needs_only)
        for function in functions:
            for great in ((5,), (4, 5), (12,), (0, 1, 2, 3, 12), (5,) * 60):
                for table in (None, (), ((0, (0,)),), STRANGE[-1]):
                    self.refused(TooGreat, {"most": 4}, function, great, (1,), table)
                    self.refused(TooGreat, {"most": 4}, function, great, (), table)
                function((), great, ())
            for bad in STRANGE + STRANGE_INTEGERS + [(13,), (-1,), (0,) * 61, [1], (1, None)]:
                self.refused(BadHolder, {"value": bad}, function, bad, 13, None)
                self.refused(BadHolder, {"value": bad}, function, (5,), bad, None)

    def test_four_places_are_not_too_many(self):
        self.assertEqual(as_riser((4,), (1,), ((0, (3,)),)), ((0, (((3,),),)),))
        self.assertEqual(as_comparer((4,), (0,), ((0, ()),)), (((0, ()),) * 15,))
        self.assertEqual(comparer_as_ranker((4,), (0,), (((0, ()),) * 15,)), (((0, ()),) * 75,))

    def test_programs_are_checked(self):
        for function in (as_comparer, as_riser):
            for bad in STRANGE + STRANGE_INTEGERS + [(), ((0, (0,)),), ((0, (0,)),) * 3]:
                self.refused(BadProgram, {"place": ()}, function, (2, 2), (1,), bad)
            for bad in STRANGE + STRANGE_TUPLES + [(0, (2,)), (0, (-1,)), (1, (0,)), (0, ()), (0, (True,)), (0, (0, 0))]:
                self.refused(BadProgram, {"place": (0,)}, function, (2, 2), (1,), (bad, None))
                self.refused(BadProgram, {"place": (1,)}, function, (2, 2), (1,), ((0, (1,)), bad))

    def test_tables_are_checked(self):
        good = {comparer_as_ranker: (((0, (0,)),) * 2,) * 2, riser_as_ranker: ((0, (((0,),),)),) * 2,
                needs_only: (((0, (0,)),) * 3,) * 2}
        for function, table in good.items():
            function((2, 2), (1,), table)
            for bad in STRANGE + STRANGE_INTEGERS + [(), table[:1], table * 2, list(table)]:
                self.refused(BadProgram, {"place": ()}, function, (2, 2), (1,), bad)
            for bad in STRANGE + STRANGE_INTEGERS + [(), table[0][:1], table[0] + table[0], list(table[0])]:
                self.refused(BadProgram, {"place": (0,)}, function, (2, 2), (1,), (bad, None))
                self.refused(BadProgram, {"place": (1,)}, function, (2, 2), (1,), (table[0], bad))
            for bad in STRANGE + STRANGE_INTEGERS + STRANGE_TUPLES + [(), (0, (2,)), ((2,),), (0, (MOST,))]:
                pairs = (0, (bad,)) if function is riser_as_ranker else (bad,) + table[0][1:]
                self.refused(BadProgram, {"place": (0, 0)}, function, (2, 2), (1,), (pairs, None))
                self.refused(BadProgram, {"place": (1, 0)}, function, (2, 2), (1,), (table[0], pairs))

    def test_only_plain_values_come_back(self):
        zero, one = Number(0), Number(1)
        for found in (as_comparer((2,), (2,), ((zero, (one, zero)),)), as_riser((2,), (2,), ((zero, (one, zero)),)),
                      comparer_as_ranker((2,), (2,), (((zero, (zero, zero)), (zero, (one, zero))),)),
                      riser_as_ranker((2,), (2,), ((zero, (((zero, one),), ((one,),))),)),
                      needs_only((2,), (2,), (((zero, (zero, zero)), (zero, (one, zero)), (zero, (one, one))),))[1]):
            self.assertTrue(plain_throughout(found))


class Time(Case):

    def test_no_noticeable_time(self):
        holder = (4,) * 60
        program = tuple((59 - shape, tuple((place * shape + place) % 4 for place in range(12))) for shape in range(60))
        listed = all_lots(4)
        riser = tuple((shape, tuple(listed[(shape * 12 + place) % 166] for place in range(12))) for shape in range(60))
        as_one = self.quick(as_comparer, holder, GREAT, program)
        as_other = self.quick(as_riser, holder, GREAT, program)
        for filling in ((0, (5, 6, 7, 8)), (59, (5, 5, 7, 5)), (31, (8, 7, 6, 5))):
            self.assertEqual(comparer_done(holder, GREAT, as_one, filling), lead(program, filling))
            self.assertEqual(riser_done(holder, GREAT, as_other, filling), lead(program, filling))
        ranker = self.quick(comparer_as_ranker, holder, GREAT, as_one)
        self.assertEqual(self.quick(riser_as_ranker, holder, GREAT, as_other), ranker)
        self.assertEqual(self.quick(needs_only, holder, GREAT, ranker), ("plain", program))
        ranker = self.quick(riser_as_ranker, holder, GREAT, riser)
        self.assertEqual(ranker_done(holder, GREAT, ranker, (7, (9, 2, 4, 2))), lead_riser(riser, (7, (9, 2, 4, 2))))
        self.assertEqual(self.quick(needs_only, holder, GREAT, ranker), ("riser", riser))
        last = ranker[:59] + (ranker[59][:74] + ((59, (0,) * 12),),)
        self.assertEqual(self.quick(needs_only, holder, GREAT, last), ("ranker", last))
        comparer = tuple(tuple((at, (len(set(view)) - 1,) * 12) for at, view in enumerate(partings(4))) for _ in holder)
        ranker = self.quick(comparer_as_ranker, holder, GREAT, comparer)
        self.assertEqual(self.quick(needs_only, holder, GREAT, ranker), ("comparer", comparer))


if __name__ == "__main__":
    unittest.main()
