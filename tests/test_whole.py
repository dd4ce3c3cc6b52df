"""[1], [6], [7] over the whole program: each function of the interface, each parameter, each bound."""

import inspect
import unittest

from holdfills import books, comparers, counts, cuts, deeds, errors, exchanges, fillings, holders, inside, lands, lifts, likeness
from holdfills import lives, lots, needs, networks, pairs, partings, powers, programs, rankers, risers, standings, windows
from holdfills import worlds
from interface import INTERFACE, told
from landed import GREAT, apart_land, blocks_land, turning_land
from raising import Case
from samples import MOST, Number, STRANGE, STRANGE_INTEGERS, STRANGE_TUPLES, plain_throughout

HOLDER, PARAMETER, INDEX = ("BadHolder", "value"), ("BadParameter", "value"), ("BadIndex", "value")
PROGRAM, EXCHANGE, LIFE = ("BadProgram", ()), ("BadExchange", ()), ("BadLife", ())
JUDGED = "judged"
# What error a value of no kind that the program knows raises, by the name of the parameter.
KINDS = {
    "holder": HOLDER, "goal": HOLDER, "middle": HOLDER, "inner": HOLDER,
    "filling": ("BadFilling", "value"), "parting": ("BadParting", "value"), "ranking": ("BadRanking", "value"), "lot": ("BadLot", "value"),
    "standing": ("BadStanding", ()), "book": ("BadBook", ()), "exchange": EXCHANGE, "matched": EXCHANGE, "life": LIFE,
    "window": ("BadWindow", ()), "program": PROGRAM, "comparer": PROGRAM, "ranker": PROGRAM, "riser": PROGRAM,
    "first": PROGRAM, "second": PROGRAM, "shape": INDEX, "place": INDEX, "number": INDEX, "stand": INDEX, "value": JUDGED,
}
KINDS.update(dict.fromkeys("""many names answers row size rows things thing holders shapes fillings steps land world table
    places split stands views between""".split(), PARAMETER))
# `one` and `other` are what their module tells, or their function.
KINDS_THERE = {counts: HOLDER, deeds: HOLDER, inside: HOLDER, powers: HOLDER, programs: PROGRAM, comparers: PROGRAM, rankers: PROGRAM,
               risers: PROGRAM, lands: PARAMETER, exchanges: PARAMETER, pairs: PARAMETER, lives: LIFE, likeness: LIFE,
               books: ("BadBook", ())}
KINDS_OF = {"stands_apart": {"one": INDEX, "other": INDEX}, "need_holder": {"value": HOLDER},
            "window_behind": {"first": ("BadWindow", ()), "second": ("BadWindow", ())}}
# The one function that does not check its parameters as they stand.
ORDER_OF = {"one_behind": ["holder", "middle", "first", "goal", "second"]}
ALL = [(module, name) for module, functions in INTERFACE.items() for name in functions]


def kind_of(module, name, parameter):
    if parameter in KINDS_OF.get(name, {}):
        return KINDS_OF[name][parameter]
    if parameter in ("one", "other"):
        return KINDS_THERE[module]
    return KINDS[parameter]


def is_integer_told(parameter):
    return parameter in ("many", "size", "thing", "shape", "place", "number", "stand", "stands", "views", "between", "places")


class Parameters(Case):

    def refused_there(self, module, name, parameter, bad, later):
        """Check that a bad value of a parameter is told, though all later ones are wrong, too."""
        passed = told(module, name)
        order = ORDER_OF.get(name, INTERFACE[module][name])
        for one in order[order.index(parameter) + 1:]:
            passed[one] = later
        passed[parameter] = bad
        error, attribute = kind_of(module, name, parameter)
        expected = {"place": ()} if attribute == () else {"value": bad}
        self.refused(getattr(errors, error), expected, getattr(module, name), **passed)

    def test_values_of_any_kind_in_each_parameter(self):
        asked = 0
        for module, name in ALL:
            for parameter in INTERFACE[module][name]:
                if kind_of(module, name, parameter) == JUDGED:
                    continue
                for bad in STRANGE:
                    self.refused_there(module, name, parameter, bad, None)
                    asked += 1
        self.assertGreater(asked, 10000)

    def test_the_first_wrong_one_is_told_whatever_comes_behind(self):
        for module, name in ALL:
            for parameter in INTERFACE[module][name]:
                if kind_of(module, name, parameter) != JUDGED:
                    for later in (True, (), ((),), -1, MOST + 1, [], STRANGE[-3]):
                        self.refused_there(module, name, parameter, None, later)

    def test_integers_and_tuples_that_are_none(self):
        for module, name in ALL:
            for parameter in INTERFACE[module][name]:
                kind = kind_of(module, name, parameter)
                if kind == JUDGED:
                    continue
                for bad in STRANGE_INTEGERS:
                    self.refused_there(module, name, parameter, bad, None)
                if is_integer_told(parameter) and (module, parameter) != (lives, "places"):
                    for bad in STRANGE_TUPLES + [()]:
                        self.refused_there(module, name, parameter, bad, None)
                if kind == HOLDER:
                    for bad in STRANGE_TUPLES + [(13,), (-1,), (0,) * 61]:
                        self.refused_there(module, name, parameter, bad, None)

    def test_judges_of_values_of_any_kind(self):
        judges = [(module, name) for module, name in ALL if kind_of(module, name, INTERFACE[module][name][-1]) == JUDGED]
        self.assertEqual(sorted(name for _, name in judges), ["is_apart", "is_kept", "is_life_map", "is_split"])
        for module, name in judges:
            function, passed = getattr(module, name), told(module, name)
            self.assertIs(function(**passed), True)
            for value in STRANGE + STRANGE_TUPLES + STRANGE_INTEGERS + [(), ((),), ((), ()), (((),),)]:
                self.assertIs(function(**{**passed, "value": value}), False)

    def test_all_judges_return_true_or_false(self):
        for module, name in ALL:
            if name.startswith(("is_", "has_", "same_")):
                self.assertIn(getattr(module, name)(**told(module, name)), (True, False))
                self.assertIs(getattr(module, name)(**told(module, name)).__class__, bool)

    def test_numbers_of_another_kind_come_back_plain(self):
        def numbers(value):
            if isinstance(value, tuple):
                return tuple(map(numbers, value))
            return Number(value) if value.__class__ is int else value
        for module, name in ALL:
            function, passed = getattr(module, name), told(module, name)
            found = function(**{one: numbers(value) for one, value in passed.items()})
            self.assertEqual(found, function(**passed), name)
            if found.__class__ is not bool and name != "needs_only":
                self.assertTrue(plain_throughout(found), name)

    def test_called_twice_the_answer_is_the_same(self):
        for module, name in ALL:
            function, passed = getattr(module, name), told(module, name)
            self.assertEqual(repr(function(**passed)), repr(function(**passed)))


class Errors(Case):

    def test_all_are_directly_beneath_hold_error(self):
        self.assertEqual(errors.HoldError.__bases__, (ValueError,))
        told_classes = {"BadHolder": "value", "BadFilling": "value", "BadProgram": "place", "BadParting": "value", "BadRanking": "value",
                        "BadLot": "value", "BadStanding": "place", "BadBook": "place", "BadExchange": "place", "BadLife": "place",
                        "BadWindow": "place", "BadIndex": "value", "BadParameter": "value", "NoRow": None, "TooGreat": "most"}
        found = {name for name, one in vars(errors).items() if inspect.isclass(one)} - {"HoldError"}
        self.assertEqual(found, set(told_classes))
        for name, attribute in told_classes.items():
            one = getattr(errors, name)
            self.assertEqual(one.__bases__, (errors.HoldError,))
            if attribute is None:
                self.assertEqual(vars(one()), {})
            else:
                self.assertEqual(vars(one(5)), {attribute: 5})
                self.assertEqual(vars(one(**{attribute: (5,)})), {attribute: (5,)})


WIDE, SPIN, TURN, SIX = apart_land(60, 12), blocks_land(60, 12), turning_land(2), turning_land(6)
PAIR, NONE = apart_land(2, 1), ((0, ()),)
STEPS = ((0, (0,) * 12),)
EIGHT = (1,) * 8
# Calls beyond each of the bounds of [7], for each function that has it.
BEYOND = [
    (60, deeds.added, (GREAT, (0,))), (60, deeds.multiplied, (GREAT, (0, 0))), (60, deeds.beside, (GREAT, (0, 0))),
    (60, deeds.into_first, (GREAT, (0,))), (60, deeds.into_second, (GREAT, (0,))), (60, deeds.first_of, (GREAT, GREAT)),
    (60, deeds.second_of, (GREAT, GREAT)), (60, deeds.either, (GREAT, (0,), (1, 0), ((0, (0,)),) * 60, ((1, ()),))),
    (60, inside.put_into, (GREAT, GREAT)), (60, inside.parts_into, (GREAT, GREAT, 0)), (60, inside.fillings_out, (GREAT, GREAT, None)),
    (60, inside.regrouped, (GREAT, GREAT, GREAT)), (60, inside.spread, (GREAT, GREAT, GREAT)), (60, inside.crossed, ((GREAT,) * 4,)),
    (60, powers.program_holder, (GREAT, GREAT)), (60, powers.beside_holder, (GREAT, GREAT)), (60, powers.applied, (GREAT, GREAT)),
    (60, powers.fed, (GREAT, GREAT, GREAT, None)), (60, powers.unfed, (GREAT, GREAT, GREAT, None)), (60, cuts.holes, (GREAT,)),
    (60, standings.look_all, (WIDE,)), (60, standings.standing_by, (GREAT, ((0, (0,)),) * 60, None)),
    (60, lands.land_added, (WIDE, TURN)), (60, lands.land_beside, (WIDE, SPIN)), (60, books.need_book, (GREAT, None)),
    (60, books.all_books, (GREAT,)), (60, books.product_book, (EIGHT, None, None, None)), (60, books.is_book_map, (EIGHT, None, None, None, None)),
    (60, books.unit_filling, (EIGHT, None, None)), (60, books.flattened, (EIGHT, None, None)), (60, books.chained, (EIGHT, None, None, None)),
    (60, books.book_of_table, (EIGHT, None)), (60, books.table_of_book, (EIGHT, None)), (60, exchanges.need_exchange, (SIX, PAIR, None)),
    (60, exchanges.all_exchanges, (WIDE, SPIN)), (60, exchanges.land_together, (PAIR, SIX, None)), (60, exchanges.first_look, (SIX, PAIR)),
    (60, exchanges.second_look, (WIDE, SPIN)), (60, lives.lives_beside, ((0,) * 31, (0, 0), NONE, NONE)), (60, lives.two_steps, (GREAT, STEPS)),
    (12, deeds.multiplied, ((7,), (6,))), (12, deeds.beside, ((4,), (4,))), (12, deeds.first_of, ((12,), (1,))), (12, deeds.second_of, ((1,), (12,))),
    (12, inside.put_into, ((12,), (2,))), (12, powers.beside_holder, ((1, 1), (7,))), (12, lands.land_beside, (SIX, turning_land(3))),
    (12, lands.land_turned, (((1,) + (2,) * 12, ((0, ((0, (0,)),)),) + tuple((0, ((at, (0, 1)), (0, (1,)))) for at in range(1, 13))),)),
    (12, standings.look_all, (SIX,)), (12, books.need_book, ((4,), None)), (12, books.only_book, (4,)), (12, books.all_books, ((12,),)),
    (12, exchanges.need_exchange, (SIX, SIX, None)), (12, exchanges.land_together, (SIX, SIX, None)), (12, exchanges.first_look, (SIX, SIX)),
    (12, exchanges.second_look, (SIX, SIX)), (12, exchanges.all_exchanges, (SIX, SIX)), (12, pairs.all_matched, (SIX, SIX)),
    (12, pairs.exchange_of, (SIX, SIX, None)), (12, pairs.matched_of, (SIX, SIX, None)), (12, lives.two_steps, ((12,), STEPS)),
    (12, lives.lives_beside, ((12,), (2,), STEPS, ((0, (0, 0)),))),
    (400, fillings.all_fillings, (GREAT, MOST)), (400, programs.all_programs, (GREAT, GREAT)), (400, lands.all_keeping, (WIDE, SPIN)),
    (400, books.all_books, ((0, 0, 1, 1, 1, 2),)), (400, exchanges.all_exchanges, (turning_land(5), turning_land(1))),
    (400, pairs.all_matched, (turning_land(3), turning_land(4))), (400, likeness.all_life_maps, ((1,), ((0, (0,)),) * 40, ((0, (0,)),) * 40)),
    (400, windows.all_windows, (40, 10)),
    (4, partings.all_partings, (12,)), (4, partings.all_rankings, (12,)), (4, lots.all_lots, (12,)), (4, lots.need_lot, (5, None)),
    (4, lots.lot_rows, (5, None)), (4, lots.lot_of, (5, None)), (4, comparers.need_comparer, (GREAT, GREAT, None)),
    (4, comparers.count_comparers, (GREAT, GREAT)), (4, comparers.comparer_done, (GREAT, GREAT, None, None)),
    (4, comparers.comparer_behind, ((4,), (5,), (4,), None, None)), (4, comparers.comparers_apart, (GREAT, GREAT, None, None)),
    (4, rankers.need_ranker, (GREAT, GREAT, None)), (4, rankers.count_rankers, (GREAT, GREAT)), (4, rankers.ranker_done, (GREAT, GREAT, None, None)),
    (4, rankers.ranker_behind, ((4,), (5,), (4,), None, None)), (4, rankers.rankers_apart, (GREAT, GREAT, None, None)),
    (4, risers.need_riser, (GREAT, GREAT, None)), (4, risers.count_risers, (GREAT, GREAT)), (4, risers.riser_done, (GREAT, GREAT, None, None)),
    (4, risers.riser_behind, ((4,), (5,), (4,), None, None)), (4, risers.risers_apart, (GREAT, GREAT, None, None)),
    (4, needs.as_comparer, (GREAT, GREAT, None)), (4, needs.as_riser, (GREAT, GREAT, None)), (4, needs.comparer_as_ranker, (GREAT, GREAT, None)),
    (4, needs.riser_as_ranker, (GREAT, GREAT, None)), (4, needs.needs_only, (GREAT, GREAT, None)), (4, networks.is_sorter, (5, None)),
    (4, networks.unsorted_row, (5, None)), (4, networks.sorter, (5,)), (4, networks.network, (12, None)), (4, worlds.all_standings, (GREAT,)),
    (24, cuts.all_cuts, (GREAT,)), (40, lives.lives_added, ((0,), ((0, ()),) * 21, ((0, ()),) * 20)),
    (40, lives.lives_beside, ((0,), (0,), ((0, ()),) * 21, ((0, ()),) * 2)), (5000, books.need_book, ((3, 3), None)),
    (5000, books.all_books, ((0, 0, 0, 2, 2),)), (5000, books.flattened, ((3, 3), None, None)), (5000, lifts.all_kept, (WIDE, 40)),
]


class Bounds(Case):

    def test_each_bound_is_known_by_counting(self):
        for most, function, passed in BEYOND:
            self.quick(self.refused, errors.TooGreat, {"most": most}, function, *passed)

    def test_numbers_may_be_great_where_nothing_is_listed(self):
        self.assertEqual(holders.count_fillings(GREAT, MOST), 60 * MOST ** 12)
        self.assertEqual(programs.count_programs(GREAT, GREAT), (60 * 12 ** 12) ** 60)
        self.assertEqual(self.quick(programs.all_programs, (0,) + GREAT[1:], (1,)), ())


if __name__ == "__main__":
    unittest.main()
