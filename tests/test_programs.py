"""[3], [7], [10] Programs: what they are, what they do, how many there are, and what tells them."""

import unittest
from collections import namedtuple
from math import prod

from holdfills.errors import BadFilling, BadHolder, BadParameter, BadProgram, TooGreat
from holdfills.fillings import all_fillings, own_filling, renamed
from holdfills.holders import count_fillings
from holdfills.programs import all_programs, count_programs, done, need_program, one_behind, program_of, still
from raising import Case
from samples import MOST, Number, SMALL_HOLDERS, STRANGE, STRANGE_TUPLES, TINY_HOLDERS
from samples import fillings, lead, plain_throughout, programs, rows

EXAMPLE = ((0, (0, 0, 1)), (0, (0, 0, 0)))


class Example(Case):

    def test_the_example_of_3(self):
        self.assertEqual(need_program((2, 1), (3,), EXAMPLE), EXAMPLE)
        self.assertEqual(done((2, 1), (3,), EXAMPLE, (0, (7, 5))), (0, (7, 7, 5)))
        self.assertEqual(done((2, 1), (3,), EXAMPLE, (1, (4,))), (0, (4, 4, 4)))
        self.assertEqual(count_programs((2, 1), (3,)), 8)
        listed = all_programs((2, 1), (3,))
        self.assertEqual(len(listed), 8)
        self.assertEqual(len({program[0] for program in listed}), 8)
        self.assertEqual({program[1] for program in listed}, {(0, (0, 0, 0))})


class NeedProgram(Case):

    def test_programs_are_returned(self):
        for holder in TINY_HOLDERS:
            for goal in TINY_HOLDERS:
                for program in programs(holder, goal):
                    self.assertEqual(need_program(holder, goal, program), program)

    def test_a_tuple_with_as_many_things_as_shapes(self):
        wrong = [(), ((0, (0,)),), ((0, (0,)),) * 3, [(0, (0,)), (0, (0,))], {0: (0, (0,)), 1: (0, (0,))}, 0, 2]
        for value in wrong + STRANGE:
            self.refused(BadProgram, {"place": ()}, need_program, (1, 1), (1,), value)
        for value in STRANGE + [((),), (0,), ((0, ()),)]:
            self.refused(BadProgram, {"place": ()}, need_program, (), (1,), value)

    def test_the_first_thing_that_is_no_pair(self):
        good = (1, (1, 0))
        wrong = [
            (), (0,), (0, ()), (0, (0, 0)), (1, (0,)), (1, (0, 0, 0)), (0, (2,)), (1, (0, 2)), (0, (-1,)), (1, (0, -1)),
            (2, ()), (2, (0,)), (-1, (0, 0)), (0, [0]), [0, (0,)], (0, (0,), 0), (0, (True,)), (False, (0,)),
            (True, (0, 0)), (0, (MOST,)), (1, (0, 0.0)), 0, (0, 0), "ab", (10 ** 70, (0,)), (0, ((0,),)),
        ]
        wrong += [(thing, (0,)) for thing in STRANGE] + [(0, (thing,)) for thing in STRANGE]
        wrong += [(0, thing) for thing in STRANGE]
        for pair in wrong + STRANGE + STRANGE_TUPLES:
            self.refused(BadProgram, {"place": (0,)}, need_program, (2, 2, 2), (1, 2), (pair, good, good))
            self.refused(BadProgram, {"place": (1,)}, need_program, (2, 2, 2), (1, 2), (good, pair, pair))
            self.refused(BadProgram, {"place": (2,)}, need_program, (2, 2, 2), (1, 2), (good, good, pair))

    def test_places_are_those_of_the_first_shape(self):
        self.assertEqual(need_program((3, 1), (1,), ((0, (2,)), (0, (0,)))), ((0, (2,)), (0, (0,))))
        self.refused(BadProgram, {"place": (1,)}, need_program, (3, 1), (1,), ((0, (2,)), (0, (1,))))
        self.refused(BadProgram, {"place": (0,)}, need_program, (0,), (1,), ((0, (0,)),))

    def test_the_edges(self):
        self.assertEqual(need_program((), (), ()), ())
        self.assertEqual(need_program((), (12,) * 60, ()), ())
        self.assertEqual(need_program((0,), (0,), ((0, ()),)), ((0, ()),))
        self.refused(BadProgram, {"place": (0,)}, need_program, (0,), (), ((0, ()),))
        self.refused(BadProgram, {"place": ()}, need_program, (0,), (), ())
        whole = ((59, (11,) * 12),) * 60
        self.assertEqual(need_program((12,) * 60, (12,) * 60, whole), whole)
        last = whole[:59] + ((60, (11,) * 12),)
        self.refused(BadProgram, {"place": (59,)}, need_program, (12,) * 60, (12,) * 60, last)

    def test_the_order_of_the_errors(self):
        one, other, program = (13,), [1], None
        self.refused(BadHolder, {"value": one}, need_program, one, other, program)
        self.refused(BadHolder, {"value": other}, need_program, (1,), other, program)
        self.refused(BadProgram, {"place": ()}, need_program, (1,), (1,), program)

    def test_only_plain_values_come_back(self):
        pair = namedtuple("pair", "one other")
        passed = (pair(Number(0), pair(Number(1), 0)),)
        for found in (need_program((2,), (2,), passed), program_of((2,), (2,), passed)):
            self.assertEqual(found, ((0, (1, 0)),))
            self.assertTrue(plain_throughout(found))


class Done(Case):

    def test_all_programs_at_all_fillings(self):
        for holder in TINY_HOLDERS:
            for goal in TINY_HOLDERS:
                for program in programs(holder, goal):
                    for filling in fillings(holder, 3):
                        self.assertEqual(done(holder, goal, program, filling), lead(program, filling))

    def test_great_things(self):
        self.assertEqual(done((1,), (2,), ((0, (0, 0)),), (0, (MOST,))), (0, (MOST, MOST)))

    def test_the_filling_is_one_of_the_holder(self):
        for filling in [(0, (0,)), (1, (0,)), (0, (0, MOST + 1))] + STRANGE + STRANGE_TUPLES:
            self.refused(BadFilling, {"value": filling}, done, (2,), (1,), ((0, (0,)),), filling)

    def test_the_order_of_the_errors(self):
        one, other, filling = (13,), [1], None
        self.refused(BadHolder, {"value": one}, done, one, other, None, filling)
        self.refused(BadHolder, {"value": other}, done, (1,), other, None, filling)
        self.refused(BadProgram, {"place": ()}, done, (1,), (1,), None, filling)
        self.refused(BadProgram, {"place": (0,)}, done, (1,), (1,), (None,), filling)
        self.refused(BadFilling, {"value": filling}, done, (1,), (1,), ((0, (0,)),), filling)

    def test_done_behind_a_renaming_is_renamed_behind_it(self):
        for holder in TINY_HOLDERS:
            for goal in ((1,), (2,), (0, 1), (2, 1)):
                for program in programs(holder, goal):
                    for filling in fillings(holder, 2):
                        for names in rows(3, 2):
                            behind = done(holder, goal, program, renamed(holder, filling, names))
                            ahead = renamed(goal, done(holder, goal, program, filling), names)
                            self.assertEqual(behind, ahead)


class OneBehind(Case):

    def test_the_first_and_then_the_second(self):
        first, second = ((1, (1, 0, 1)),), ((1, ()), (0, (2,)))
        self.assertEqual(one_behind((2,), (1, 3), (1, 0), first, second), ((0, (1,)),))

    def test_it_does_both_at_all_fillings(self):
        few = ((0,), (1,), (2,), (0, 1), (1, 2))
        for holder in few:
            for middle in few:
                for goal in few:
                    for first in programs(holder, middle):
                        for second in programs(middle, goal)[:7]:
                            both = one_behind(holder, middle, goal, first, second)
                            self.assertEqual(need_program(holder, goal, both), both)
                            for filling in fillings(holder, 3):
                                self.assertEqual(lead(both, filling), lead(second, lead(first, filling)))

    def test_still_ahead_and_behind_changes_nothing(self):
        for holder in TINY_HOLDERS:
            for goal in TINY_HOLDERS:
                for program in programs(holder, goal):
                    self.assertEqual(one_behind(holder, holder, goal, still(holder), program), program)
                    self.assertEqual(one_behind(holder, goal, goal, program, still(goal)), program)

    def test_the_order_of_the_errors(self):
        bad, ill, good = (13,), [0], ((0, (0,)),)
        self.refused(BadHolder, {"value": bad}, one_behind, bad, ill, ill, None, None)
        self.refused(BadHolder, {"value": ill}, one_behind, (1,), ill, bad, None, None)
        self.refused(BadProgram, {"place": ()}, one_behind, (1,), (1,), bad, None, None)
        self.refused(BadProgram, {"place": (0,)}, one_behind, (1,), (1,), bad, (None,), None)
        self.refused(BadHolder, {"value": bad}, one_behind, (1,), (1,), bad, good, None)
        self.refused(BadProgram, {"place": ()}, one_behind, (1,), (1,), (1,), good, None)
        self.refused(BadProgram, {"place": (0,)}, one_behind, (1,), (1,), (1,), good, ((0, (1,)),))

    def test_each_program_is_checked_between_its_own_holders(self):
        self.assertEqual(one_behind((1,), (2,), (3,), ((0, (0, 0)),), ((0, (0, 1, 1)),)), ((0, (0, 0, 0)),))
        self.refused(BadProgram, {"place": (0,)}, one_behind, (1,), (2,), (3,), ((0, (0, 0, 0)),), ((0, (0, 1, 1)),))
        self.refused(BadProgram, {"place": (0,)}, one_behind, (1,), (2,), (3,), ((0, (0, 0)),), ((0, (0, 1)),))


class Still(Case):

    def test_nothing_is_changed(self):
        self.assertEqual(still(()), ())
        self.assertEqual(still((2, 0, 1)), ((0, (0, 1)), (1, ()), (2, (0,))))
        for holder in SMALL_HOLDERS:
            self.assertEqual(need_program(holder, holder, still(holder)), still(holder))
            self.assertEqual(still(holder), tuple(own_filling(holder, shape) for shape in range(len(holder))))
            for filling in fillings(holder, 2):
                self.assertEqual(done(holder, holder, still(holder), filling), filling)

    def test_what_is_no_holder(self):
        for value in STRANGE + STRANGE_TUPLES + [(13,), (0,) * 61]:
            self.refused(BadHolder, {"value": value}, still, value)


class Counting(Case):

    def test_the_product_of_the_numbers_of_fillings(self):
        for holder in SMALL_HOLDERS:
            for goal in SMALL_HOLDERS:
                told = prod(count_fillings(goal, size) for size in holder)
                self.assertEqual(count_programs(holder, goal), told)
                if told <= 400:
                    self.assertEqual(len(programs(holder, goal)), told)

    def test_counts_of_hundreds_of_figures(self):
        self.assertEqual(count_programs((12,) * 60, (12,) * 60), (60 * 12 ** 12) ** 60)
        self.assertEqual(count_programs((12,) * 59 + (0,), (12,) * 60), 0)
        self.assertEqual(count_programs((), (12,) * 60), 1)
        self.assertEqual(count_programs((0,) * 60, (0,) * 60), 60 ** 60)
        self.assertEqual(count_programs((12,) * 60, ()), 0)
        self.assertEqual(count_programs((), ()), 1)

    def test_the_order_of_the_errors(self):
        for function in (count_programs, all_programs):
            for value in STRANGE + STRANGE_TUPLES + [(13,), (0,) * 61]:
                self.refused(BadHolder, {"value": value}, function, value, None)
                self.refused(BadHolder, {"value": value}, function, (12,) * 60, value)
                self.refused(BadHolder, {"value": value}, function, (), value)


class Listing(Case):

    def test_all_of_small_holders_ascending(self):
        for holder in SMALL_HOLDERS:
            for goal in SMALL_HOLDERS:
                if count_programs(holder, goal) <= 400:
                    found = all_programs(holder, goal)
                    self.assertEqual(found, tuple(programs(holder, goal)))
                    self.assertEqual(list(found), sorted(found))
                    self.assertTrue(plain_throughout(found))
                else:
                    self.refused(TooGreat, {"most": 400}, all_programs, holder, goal)

    def test_the_edges(self):
        self.assertEqual(all_programs((), ()), ((),))
        self.assertEqual(all_programs((), (12,) * 60), ((),))
        self.assertEqual(all_programs((0,), ()), ())
        self.assertEqual(all_programs((12,) * 60, ()), ())
        self.assertEqual(all_programs((1,) * 60, (1,)), (((0, (0,)),) * 60,))

    def test_none_of_them_where_one_shape_can_go_nowhere(self):
        self.assertEqual(all_programs((12,) * 59 + (0,), (12,) * 60), ())
        self.assertEqual(all_programs((0,) + (12,) * 59, (12,) * 60), ())

    def test_400_are_listed_and_401_refused(self):
        self.assertEqual(len(all_programs((2,), (8, 7, 4))), 2 ** 8 + 2 ** 7 + 2 ** 4)
        self.assertEqual(len(all_programs((0, 0), (0,) * 20)), 400)
        self.refused(TooGreat, {"most": 400}, all_programs, (2,), (8, 7, 4, 0))
        self.refused(TooGreat, {"most": 400}, all_programs, (0, 0), (0,) * 21)
        self.refused(TooGreat, {"most": 400}, all_programs, (12,) * 60, (12,) * 60)


class ProgramOf(Case):

    def test_it_returns_its_answers(self):
        for holder in TINY_HOLDERS:
            for goal in TINY_HOLDERS:
                for program in programs(holder, goal):
                    answers = tuple(done(holder, goal, program, own_filling(holder, at)) for at in range(len(holder)))
                    self.assertEqual(program_of(holder, goal, answers), answers)
                    self.assertEqual(program_of(holder, goal, answers), program)

    def test_a_tuple_with_as_many_things_as_shapes(self):
        for answers in [(), ((0, (0,)),) * 2, [(0, (0,))], 0, "a", (0, (0,))] + STRANGE:
            self.refused(BadParameter, {"value": answers}, program_of, (1,), (1,), answers)
        for answers in [((0, (0,)),), [], ((),)] + STRANGE:
            self.refused(BadParameter, {"value": answers}, program_of, (), (1,), answers)
        self.assertEqual(program_of((), (), ()), ())

    def test_the_first_answer_that_is_none(self):
        wrong = [(0, (2,)), (0, (MOST,)), (0, (MOST + 1,)), (1, (0,)), (0, ()), (0, (0, 0)), (0, (True,)), [0, (0,)], 0]
        for answer in wrong + STRANGE + STRANGE_TUPLES:
            self.refused(BadFilling, {"value": answer}, program_of, (2, 1), (1,), (answer, None))
            self.refused(BadFilling, {"value": answer}, program_of, (2, 1), (1,), ((0, (1,)), answer))
        # The thing 1 is a place of the shape 0, not of the shape 1.
        answer = (0, (1,))
        self.refused(BadFilling, {"value": answer}, program_of, (2, 1), (1,), (answer, answer))

    def test_the_order_of_the_errors(self):
        one, other, answers = (13,), [1], None
        self.refused(BadHolder, {"value": one}, program_of, one, other, answers)
        self.refused(BadHolder, {"value": other}, program_of, (1,), other, answers)
        self.refused(BadParameter, {"value": answers}, program_of, (1,), (1,), answers)


class ForAllSets(Case):
    """[3] What does the same ahead of and behind every renaming is a program, and just one."""

    def natural(self, holder, goal, many):
        """Return all that leads fillings by `many` things so as renamings ask, as dicts."""
        here, there = fillings(holder, many), fillings(goal, many)
        found = [{}]
        for filling in here:
            found = [{**table, filling: to} for table in found for to in there]
        return [table for table in found if self.keeps_renamings(holder, goal, many, table)]

    def keeps_renamings(self, holder, goal, many, table):
        for names in rows(many, many):
            for filling, to in table.items():
                if table[renamed(holder, filling, names)] != renamed(goal, to, names):
                    return False
        return True

    def test_there_are_no_other_ones(self):
        pairs = [((2,), (1,)), ((1, 1), (1,)), ((1, 1), (0, 1)), ((2,), (2,)), ((0, 1), (2,)), ((0, 1), (1, 0))]
        for holder, goal in pairs:
            tables = self.natural(holder, goal, 2)
            told = [{filling: lead(program, filling) for filling in fillings(holder, 2)}
                    for program in all_programs(holder, goal)]
            self.assertEqual(len(tables), count_programs(holder, goal))
            for table in tables:
                self.assertEqual(told.count(table), 1)

    def test_own_fillings_tell_it(self):
        for holder in TINY_HOLDERS:
            for goal in ((1,), (2,), (0, 1)):
                listed = all_programs(holder, goal)
                own = [tuple(done(holder, goal, program, own_filling(holder, at)) for at in range(len(holder)))
                       for program in listed]
                self.assertEqual(len(set(own)), len(listed))
                for program in listed:
                    for filling in all_fillings(holder, 3):
                        shown = done(holder, goal, program, own_filling(holder, filling[0]))
                        self.assertEqual(done(holder, goal, program, filling), renamed(goal, shown, filling[1]))


if __name__ == "__main__":
    unittest.main()
