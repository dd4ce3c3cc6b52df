"""The tests that comparers and rankers share; each of both says what its views are."""

from collections import namedtuple
from math import prod

from holdfills.errors import BadFilling, BadHolder, BadProgram, NoRow, TooGreat
from samples import MOST, Number, STRANGE, STRANGE_INTEGERS, STRANGE_TUPLES
from samples import families, fillings, lead_table, named, plain_throughout, rows, tables

HERE = [(), (0,), (1,), (2,), (0, 1), (1, 1), (2, 0)]
THERE = [(), (0,), (1,), (0, 1), (2,)]
GREAT = (12,) * 60
# A program, a comparer and a ranker of the holder (1,) to itself are the same but for brackets.
ITSELF = (((0, (0,)),),)


class Tables:
    """A mixin: need, act, behind, count and apart are the five functions of one kind of tables.

    `views` are the partings or the rankings, `see` is what gives that of a row, and
    `renamings` are those with which the tables do the same.
    """

    def lead(self, table, filling):
        """Return where a table leads a filling, found apart from the program."""
        return lead_table(self.views, self.see, table, filling)

    def whole(self, holder, goal=(0, 3)):
        """Return the table that leads all to the last shape of the goal, each place getting the number 0."""
        pair = (len(goal) - 1, (0,) * goal[-1])
        return tuple(tuple(pair for _ in self.views(size)) for size in holder)

    def test_need_returns_each_table(self):
        for holder in HERE:
            for goal in THERE:
                for table in tables(self.views, holder, goal):
                    self.assertEqual(self.need(holder, goal, table), table)

    def test_need_asks_for_a_thing_for_each_shape(self):
        good = self.whole((1, 1))
        wrong = [(), good[:1], good + good[:1], list(good), dict(enumerate(good)), 2, (0, 0, 0)]
        for value in wrong + STRANGE + STRANGE_INTEGERS:
            self.refused(BadProgram, {"place": ()}, self.need, (1, 1), (0, 3), value)
        for value in STRANGE + [((),), (0,), self.whole((1,))]:
            self.refused(BadProgram, {"place": ()}, self.need, (), (0, 3), value)

    def test_need_asks_for_a_pair_for_each_view(self):
        holder = (2, 3, 4, 0)
        good = self.whole(holder)
        good = good[:3] + (((0, ()),),)
        self.assertEqual(self.need(holder, (0, 3), good), good)
        for shape in range(4):
            pairs = good[shape]
            wrong = [(), pairs[:-1], pairs + pairs[:1], pairs * 2, list(pairs), dict(enumerate(pairs)), len(pairs)]
            for value in wrong + STRANGE + STRANGE_INTEGERS:
                table = good[:shape] + (value,) + (None,) * (3 - shape)
                self.refused(BadProgram, {"place": (shape,)}, self.need, holder, (0, 3), table)

    def test_need_asks_for_numbers_of_the_view(self):
        holder, goal = (1, 3), (0, 3)
        good = self.whole(holder)
        for number, view in enumerate(self.views(3)):
            many = len(set(view))
            wrong = [(), (1,), (1, ()), (0, (0,)), (1, (0, 0)), (1, (0, 0, 0, 0)), (2, (0, 0, 0)), (-1, (0, 0, 0)),
                     (1, (0, 0, many)), (1, (-1, 0, 0)), (1, [0, 0, 0]), [1, (0, 0, 0)], (1, (0, 0, 0), 0), (1, (0, 0, MOST)),
                     (True, (0, 0, 0)), (False, ()), (1, (0, True, 0)), (1, (0.0, 0, 0)), (1, ((0,), 0, 0))]
            wrong += [(value, (0, 0, 0)) for value in STRANGE] + [(1, value) for value in STRANGE]
            wrong += [(1, (0, value, 0)) for value in STRANGE + STRANGE_INTEGERS] + STRANGE + STRANGE_TUPLES
            for pair in wrong:
                row = good[1][:number] + (pair,) + good[1][number + 1:]
                self.refused(BadProgram, {"place": (1, number)}, self.need, holder, goal, (good[0], row))
                # The first such thing is told, in the first such shape.
                rest = good[1][:number] + (pair,) + (None,) * (len(good[1]) - number - 1)
                self.refused(BadProgram, {"place": (1, number)}, self.need, holder, goal, (good[0], rest))
                self.refused(BadProgram, {"place": (0, 0)}, self.need, holder, goal, ((None,), row))
            for told in rows(many, 3):
                row = good[1][:number] + ((1, told),) + good[1][number + 1:]
                self.assertEqual(self.need(holder, goal, (good[0], row)), (good[0], row))

    def test_need_tells_shapes_one_after_the_other(self):
        good = self.whole((2, 2, 2))
        count = len(good[0])
        bad = good[0][:-1] + (None,)
        self.refused(BadProgram, {"place": (0, count - 1)}, self.need, (2, 2, 2), (0, 3), (bad, None, good[0]))
        self.refused(BadProgram, {"place": (1,)}, self.need, (2, 2, 2), (0, 3), (good[0], None, bad))
        self.refused(BadProgram, {"place": (1, count - 1)}, self.need, (2, 2, 2), (0, 3), (good[0], bad, ()))
        self.refused(BadProgram, {"place": ()}, self.need, (2, 2, 2), (0, 3), (None, bad))

    def test_need_at_the_edges(self):
        self.assertEqual(self.need((), (), ()), ())
        self.assertEqual(self.need((), GREAT, ()), ())
        self.assertEqual(self.need((0,), (0,), (((0, ()),),)), (((0, ()),),))
        self.refused(BadProgram, {"place": (0, 0)}, self.need, (0,), (), (((0, ()),),))
        self.refused(BadProgram, {"place": (0, 0)}, self.need, (0,), (1,), (((0, (0,)),),))
        self.refused(BadProgram, {"place": (0,)}, self.need, (0,), (0,), ((),))
        whole = self.whole((4,) * 60, GREAT)
        self.assertEqual(self.need((4,) * 60, GREAT, whole), whole)
        last = whole[:59] + (whole[59][:-1] + ((59, (4,) * 12),),)
        place = (59, len(self.views(4)) - 1)
        self.refused(BadProgram, {"place": place}, self.need, (4,) * 60, GREAT, last)

    def test_only_plain_values_come_back(self):
        pair = namedtuple("pair", "one other")
        here = pair(Number(0), pair(Number(0), Number(0)))
        table = (tuple(here for _ in self.views(2)),)
        for found in (self.need((2,), (2,), table), self.behind((2,), (2,), (2,), table, table),
                      self.act((2,), (2,), table, (Number(0), pair(Number(5), Number(6))))):
            self.assertTrue(plain_throughout(found))
        other = (tuple((0, (0, len(set(view)) - 1)) for view in self.views(2)),)
        self.assertTrue(plain_throughout(self.apart((2,), (2,), table, other)))

    def test_act_does_what_a_table_tells(self):
        for holder in HERE:
            for goal in THERE:
                for table in tables(self.views, holder, goal):
                    for filling in fillings(holder, 3):
                        self.assertEqual(self.act(holder, goal, table, filling), self.lead(table, filling))

    def test_act_at_four_places(self):
        # Each view is led to a shape of its own, and each place gets the thing whose number is the greatest one.
        views = self.views(4)[-30:]
        goal = (2,) * 60
        pairs = [(number if number < 60 else 59, (len(set(view)) - 1, 0)) for number, view in enumerate(self.views(4))]
        for view in views:
            for row in (view, tuple(MOST - 3 + thing for thing in view), tuple(7 * thing + 2 for thing in view)):
                found = self.act((1, 4), goal, (((0, (0, 0)),), tuple(pairs)), (1, row))
                number = self.views(4).index(view)
                expected = (min(number, 59), tuple(dict(zip(view, row))[told] for told in pairs[number][1]))
                self.assertEqual(found, expected)

    def test_act_asks_for_a_filling(self):
        table = self.whole((1, 2))
        wrong = [(0, ()), (2, ()), (1, (0,)), (1, (0, MOST + 1)), (0, [0]), [0, (0,)], (0, (-1,))]
        for value in wrong + STRANGE + STRANGE_TUPLES:
            self.refused(BadFilling, {"value": value}, self.act, (1, 2), (0, 3), table, value)

    def test_behind_does_the_one_and_then_the_other(self):
        for holder, middle, goal in [((2,), (2,), (1,)), ((1, 2), (0, 2), (0, 1)), ((2,), (0, 1), (2,)), ((), (2,), (1,)),
                                     ((0, 1), (1, 0), (0, 0, 1)), ((1,), (2,), (2,)), ((2,), (1, 0), (0,))]:
            for first in tables(self.views, holder, middle)[:40]:
                for second in tables(self.views, middle, goal)[::7]:
                    both = self.behind(holder, middle, goal, first, second)
                    self.assertEqual(self.need(holder, goal, both), both)
                    for filling in fillings(holder, 3):
                        expected = self.lead(second, self.lead(first, filling))
                        self.assertEqual(self.act(holder, goal, both, filling), expected)

    def test_behind_of_greater_tables(self):
        for turn in range(5):
            first = (tuple((0, tuple((place + turn) % len(set(view)) for place in range(4))) for view in self.views(4)),)
            second = (tuple((0, tuple((place * turn) % len(set(view)) for place in range(12))) for view in self.views(4)),)
            both = self.behind((4,), (4,), (12,), first, second)
            for filling in fillings((4,), 4):
                self.assertEqual(self.lead(both, filling), self.lead(second, self.lead(first, filling)))

    def test_count_is_how_many_there_are(self):
        for holder in HERE:
            for goal in THERE + [(1, 1), (0, 0)]:
                self.assertEqual(self.count(holder, goal), len(tables(self.views, holder, goal)))

    def test_count_of_great_holders(self):
        per_size = [prod(60 * len(set(view)) ** 12 for view in self.views(size)) for size in range(5)]
        for holder in ((4,) * 60, (3, 4) * 30, (0, 1, 2, 3, 4) * 12):
            # The answer may have too many digits to be shown.
            expected = 0 if 0 in holder else prod(per_size[size] for size in holder)
            self.assertTrue(self.count(holder, GREAT) == expected)
        self.assertEqual(self.count((), GREAT), 1)
        self.assertEqual(self.count((), ()), 1)
        self.assertEqual(self.count((0,), ()), 0)
        self.assertEqual(self.count((4,) * 59 + (0,), GREAT), 0)

    def test_apart_tells_by_as_few_things_as_there_can_be(self):
        for holder, goal in [((2,), (1,)), ((2,), (0, 1)), ((1, 1), (1, 0)), ((0, 2), (0, 1)), ((1,), (0, 0)), ((), (1,))]:
            listed = tables(self.views, holder, goal)
            asked = fillings(holder, 3)
            for one in listed:
                for other in listed:
                    telling = [filling for filling in asked if self.lead(one, filling) != self.lead(other, filling)]
                    if one == other:
                        self.assertEqual(telling, [])
                        self.refused(NoRow, {}, self.apart, holder, goal, one, other)
                    else:
                        found = self.apart(holder, goal, one, other)
                        few = min(len(set(row)) for _, row in telling)
                        self.assertEqual(len(set(found[1])), few)
                        self.assertNotEqual(self.lead(one, found), self.lead(other, found))

    def test_apart_where_one_pair_is_another_one(self):
        holder, goal = (4, 2, 0, 3), (0, 3, 3, 0)
        one = tuple(tuple((1, (0, 0, 0)) if size else (0, ()) for _ in self.views(size)) for size in holder)
        for shape, size in enumerate(holder):
            for number, view in enumerate(self.views(size)):
                others = [(2, (0, 0, 0)), (0, ()), (1, (0, 0, len(set(view)) - 1))] if size else [(3, ())]
                for pair in others:
                    if pair != one[shape][number]:
                        pairs = one[shape][:number] + (pair,) + one[shape][number + 1:]
                        other = one[:shape] + (pairs,) + one[shape + 1:]
                        for both in ((one, other), (other, one)):
                            to, row = self.apart(holder, goal, *both)
                            self.assertEqual((to, self.see(row)), (shape, view))
                            self.assertNotEqual(self.lead(one, (to, row)), self.lead(other, (to, row)))

    def test_apart_where_two_pairs_are_others(self):
        # Of two fillings that tell them apart that by fewer things is told, whichever comes first.
        holder, goal = (4, 4), (1, 1)
        one = tuple(tuple((0, (0,)) for _ in self.views(4)) for _ in holder)
        views = self.views(4)
        for at in range(0, len(views), 7):
            for to in range(len(views)):
                first = one[0][:at] + ((1, (0,)),) + one[0][at + 1:]
                second = one[1][:to] + ((1, (0,)),) + one[1][to + 1:]
                found = self.apart(holder, goal, one, (first, second))
                self.assertEqual(len(set(found[1])), min(len(set(views[at])), len(set(views[to]))))

    def test_too_great_behind_all_holders_ahead_of_all_tables(self):
        for great in ((5,), (4, 5), (12,), (0, 1, 2, 3, 12), (5,) * 60):
            for table in (None, (), self.whole((1,)), STRANGE[-1]):
                self.refused(TooGreat, {"most": 4}, self.need, great, (1,), table)
                self.refused(TooGreat, {"most": 4}, self.act, great, (1,), table, None)
                self.refused(TooGreat, {"most": 4}, self.behind, great, (1,), (1,), table, None)
                self.refused(TooGreat, {"most": 4}, self.behind, (1,), great, (1,), table, None)
                self.refused(TooGreat, {"most": 4}, self.behind, great, great, (1,), ITSELF, ITSELF)
                self.refused(TooGreat, {"most": 4}, self.apart, great, (1,), table, None)
            self.refused(TooGreat, {"most": 4}, self.count, great, (1,))
            self.refused(TooGreat, {"most": 4}, self.count, great, ())
            # Of the goal no shape is too great.
            self.assertEqual(self.count((), great), 1)
            self.assertEqual(self.behind((), (), great, (), ()), ())
            self.assertEqual(self.need((), great, ()), ())

    def test_the_order_of_the_errors(self):
        good, great = ITSELF, (5,)
        for bad in STRANGE + STRANGE_INTEGERS + [(13,), (-1,), (0,) * 61, [1], (1, None)]:
            for function, rest in ((self.need, (None,)), (self.act, (None, None)), (self.count, ()),
                                   (self.apart, (None, None)), (self.behind, ((13,), None, None))):
                self.refused(BadHolder, {"value": bad}, function, bad, 13, *rest)
                self.refused(BadHolder, {"value": bad}, function, great, bad, *rest)
            self.refused(BadHolder, {"value": bad}, self.behind, great, great, bad, None, None)
        for bad in STRANGE + STRANGE_INTEGERS + [(), ((),) * 2]:
            self.refused(BadProgram, {"place": ()}, self.act, (1,), (1,), bad, None)
            self.refused(BadProgram, {"place": ()}, self.apart, (1,), (1,), bad, (None,))
            self.refused(BadProgram, {"place": ()}, self.apart, (1,), (1,), good, bad)
            self.refused(BadProgram, {"place": ()}, self.behind, (1,), (1,), (1,), bad, (None,))
            self.refused(BadProgram, {"place": ()}, self.behind, (1,), (1,), (1,), good, bad)
        for function, ahead in ((self.apart, ()), (self.behind, ((1,),))):
            self.refused(BadProgram, {"place": (0,)}, function, (1,), (1,), *ahead, (None,), None)
            self.refused(BadProgram, {"place": (0, 0)}, function, (1,), (1,), *ahead, ((None,),), None)
            self.refused(BadProgram, {"place": (0,)}, function, (1,), (1,), *ahead, good, (None,))
            self.refused(BadProgram, {"place": (0, 0)}, function, (1,), (1,), *ahead, good, ((None,),))
        self.refused(BadProgram, {"place": (0, 0)}, self.act, (1,), (1,), ((None,),), None)
        self.refused(BadFilling, {"value": None}, self.act, (1,), (1,), good, None)

    def test_each_table_is_checked_between_its_own_holders(self):
        # From (1,) to (2,) and from (2,) to (1,), the other way about neither.
        up = (((0, (0, 0)),),)
        down = (tuple((0, (0,)) for _ in self.views(2)),)
        self.assertEqual(self.behind((1,), (2,), (1,), up, down), ITSELF)
        self.refused(BadProgram, {"place": (0,)}, self.behind, (2,), (1,), (2,), up, down)
        self.refused(BadProgram, {"place": (0, 0)}, self.behind, (1,), (1,), (2,), up, up)

    def test_renaming_ahead_is_renaming_behind(self):
        for holder in HERE:
            for goal in THERE:
                for table in tables(self.views, holder, goal):
                    for filling in fillings(holder, 2):
                        for names in self.renamings(2, 4):
                            found = self.act(holder, goal, table, named(filling, names))
                            self.assertEqual(found, named(self.act(holder, goal, table, filling), names))

    def test_what_does_the_same_behind_renamings_is_exactly_one_table(self):
        for holder, goal in [((2,), (1,)), ((2,), (2,)), ((2,), (0, 1)), ((1, 1), (1,)), ((0, 2), (0, 1)), ((1,), (3,)),
                             ((), (1,)), ((0,), (1,)), ((1,), ()), ((0, 0), (0, 0)), ((3,), (0,))]:
            most = max(holder, default=0)
            found = families(holder, goal, most, self.renamings)
            told = [{(many, filling): self.act(holder, goal, table, filling)
                     for many in range(most + 1) for filling in fillings(holder, many)}
                    for table in tables(self.views, holder, goal)]
            self.assertEqual(len(found), self.count(holder, goal))
            self.assertEqual(len(told), len(found))
            for family in found:
                self.assertEqual(told.count(family), 1)
