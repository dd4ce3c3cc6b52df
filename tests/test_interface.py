"""The interface: each name in its file, with its parameters in their order."""

import inspect
import unittest

from holdfills import books, comparers, counts, cuts, deeds, exchanges, fillings, holders, inside, lands, lots, needs
from holdfills import networks, partings, powers, programs, rankers, risers, standings, worlds

INTERFACE = {
    holders: {
        "need_holder": ["value"],
        "plain_form": ["holder"],
        "count_fillings": ["holder", "many"],
    },
    fillings: {
        "need_filling": ["holder", "filling"],
        "all_fillings": ["holder", "many"],
        "own_filling": ["holder", "shape"],
        "renamed": ["holder", "filling", "names"],
    },
    programs: {
        "need_program": ["holder", "goal", "program"],
        "done": ["holder", "goal", "program", "filling"],
        "one_behind": ["holder", "middle", "goal", "first", "second"],
        "still": ["holder"],
        "count_programs": ["holder", "goal"],
        "all_programs": ["holder", "goal"],
        "program_of": ["holder", "goal", "answers"],
        "told_apart": ["holder", "goal", "one", "other"],
        "is_apart": ["holder", "goal", "one", "other", "value"],
        "is_one_to_one": ["holder", "goal", "program"],
        "is_onto": ["holder", "goal", "program"],
        "back": ["holder", "goal", "program"],
    },
    partings: {
        "need_parting": ["parting"],
        "need_ranking": ["ranking"],
        "parting_of": ["row"],
        "ranking_of": ["row"],
        "all_partings": ["size"],
        "all_rankings": ["size"],
    },
    lots: {
        "need_lot": ["size", "lot"],
        "all_lots": ["size"],
        "lot_rows": ["size", "lot"],
        "lot_of": ["size", "rows"],
    },
    comparers: {
        "need_comparer": ["holder", "goal", "comparer"],
        "comparer_done": ["holder", "goal", "comparer", "filling"],
        "comparer_behind": ["holder", "middle", "goal", "first", "second"],
        "count_comparers": ["holder", "goal"],
        "comparers_apart": ["holder", "goal", "one", "other"],
    },
    rankers: {
        "need_ranker": ["holder", "goal", "ranker"],
        "ranker_done": ["holder", "goal", "ranker", "filling"],
        "ranker_behind": ["holder", "middle", "goal", "first", "second"],
        "count_rankers": ["holder", "goal"],
        "rankers_apart": ["holder", "goal", "one", "other"],
    },
    risers: {
        "need_riser": ["holder", "goal", "riser"],
        "riser_done": ["holder", "goal", "riser", "filling"],
        "riser_behind": ["holder", "middle", "goal", "first", "second"],
        "count_risers": ["holder", "goal"],
        "risers_apart": ["holder", "goal", "one", "other"],
    },
    needs: {
        "as_comparer": ["holder", "goal", "program"],
        "as_riser": ["holder", "goal", "program"],
        "comparer_as_ranker": ["holder", "goal", "comparer"],
        "riser_as_ranker": ["holder", "goal", "riser"],
        "needs_only": ["holder", "goal", "ranker"],
    },
    networks: {
        "is_sorter": ["size", "riser"],
        "unsorted_row": ["size", "riser"],
        "sorter": ["size"],
        "network": ["size", "steps"],
    },
    counts: {
        "fillings_line": ["holder"],
        "same_counts": ["one", "other"],
        "counts_apart": ["one", "other"],
        "taken_off": ["one", "other"],
        "quotient": ["one", "other"],
    },
    cuts: {
        "all_cuts": ["holder"],
        "holes": ["holder"],
        "hole_filled": ["holder", "shape", "place", "things", "thing"],
    },
    deeds: {
        "added": ["one", "other"],
        "multiplied": ["one", "other"],
        "beside": ["one", "other"],
        "into_first": ["one", "other"],
        "into_second": ["one", "other"],
        "either": ["one", "other", "goal", "first", "second"],
        "first_of": ["one", "other"],
        "second_of": ["one", "other"],
        "paired": ["holder", "one", "other", "first", "second"],
        "both_added": ["holders", "first", "second"],
        "both_multiplied": ["holders", "first", "second"],
        "both_beside": ["holders", "first", "second"],
    },
    inside: {
        "put_into": ["one", "other"],
        "shape_into": ["one", "other", "shape", "shapes"],
        "parts_into": ["one", "other", "number"],
        "filling_into": ["one", "other", "shape", "fillings"],
        "fillings_out": ["one", "other", "filling"],
        "both_into": ["holders", "first", "second"],
        "regrouped": ["one", "middle", "other"],
        "spread": ["one", "other", "inner"],
        "crossed": ["holders"],
    },
    powers: {
        "program_holder": ["one", "other"],
        "fed": ["holder", "one", "other", "program"],
        "unfed": ["holder", "one", "other", "program"],
        "applied": ["one", "other"],
        "beside_holder": ["one", "other"],
        "fed_beside": ["holder", "one", "other", "program"],
        "unfed_beside": ["holder", "one", "other", "program"],
    },
    standings: {
        "need_standing": ["holder", "standing"],
        "need_land": ["land"],
        "look_here": ["land"],
        "look_all": ["land"],
        "standing_by": ["holder", "first", "second"],
    },
    worlds: {
        "world_of": ["land"],
        "land_of": ["world"],
        "all_standings": ["holder"],
    },
    lands: {
        "land_added": ["one", "other"],
        "land_beside": ["one", "other"],
        "land_turned": ["land"],
        "end_land": ["holder"],
        "has_backs": ["land"],
        "is_thin": ["land"],
        "is_keeping": ["one", "other", "program"],
        "broken_keeping": ["one", "other", "program"],
        "all_keeping": ["one", "other"],
    },
    books: {
        "need_book": ["holder", "book"],
        "unit_filling": ["holder", "book", "thing"],
        "flattened": ["holder", "book", "filling"],
        "chained": ["holder", "book", "filling", "fillings"],
        "all_books": ["holder"],
        "only_book": ["places"],
        "book_of_table": ["holder", "table"],
        "table_of_book": ["holder", "book"],
        "is_book_map": ["holder", "book", "goal", "other", "program"],
        "product_book": ["holder", "book", "goal", "other"],
    },
    exchanges: {
        "need_exchange": ["one", "other", "exchange"],
        "all_exchanges": ["one", "other"],
        "land_together": ["one", "other", "exchange"],
        "first_look": ["one", "other"],
        "second_look": ["one", "other"],
    },
}

PASSED = {
    "value": (0, (1, 0)), "holder": (2, 1), "goal": (2, 1), "middle": (2, 1), "filling": (0, (5, 6)), "many": 2,
    "shape": 1, "names": (0, 1, 2, 3, 4, 5, 6), "program": ((0, (1, 0)), (1, (0,))),
    "first": ((0, (1, 0)), (1, (0,))), "second": ((0, (1, 0)), (1, (0,))), "one": ((0, (1, 0)), (1, (0,))),
    "other": ((0, (0, 1)), (1, (0,))), "answers": ((0, (1, 0)), (1, (0,))),
    "parting": (0, 1, 0), "ranking": (1, 0, 1), "row": (7, 5), "size": 2, "lot": ((0, 1),), "rows": (0, 1, 1, 1),
}
COMPARER = (((0, (0, 0)), (0, (1, 0))), ((1, (0,)),))
RANKER = (((0, (0, 0)), (0, (1, 0)), (1, (1,))), ((1, (0,)),))
RISER = ((0, (((0, 1),), ((0,), (1,)))), (1, (((0,),),)))
STILL = ((0, (((0,),), ((1,),))), (1, (((0,),),)))
KEEP = ((0, (0,)), (1, ()))
BACK = ((0, ((0, (0, 1)), (0, (1, 0)))),)
LAND = ((2,), BACK)
WORLD = (1, ((0, 0), (0, 0)), (0,), ((0, 1), (1, 0)))
MAYBE = (1, ((0, ()), (0, ()), (1, (0,))))
# What is passed in one module alone.
PASSED_THERE = {
    comparers: {"comparer": COMPARER, "first": COMPARER, "second": COMPARER, "one": COMPARER,
                "other": (((0, (0, 0)), (0, (0, 1))), ((1, (0,)),))},
    rankers: {"ranker": RANKER, "first": RANKER, "second": RANKER, "one": RANKER,
              "other": (((0, (0, 0)), (0, (0, 1)), (1, (1,))), ((1, (0,)),))},
    risers: {"riser": RISER, "first": RISER, "second": RISER, "one": RISER, "other": STILL},
    needs: {"comparer": COMPARER, "riser": RISER, "ranker": RANKER},
    networks: {"riser": STILL[:1], "steps": ((0, 1),)},
    counts: {"one": (1, 2, 2, 3), "other": (1,)},
    cuts: {"shape": 0, "place": 1, "things": (5,), "thing": 6},
    deeds: {"one": (2, 1), "other": (2, 1), "holders": ((2, 1),) * 4},
    inside: {"one": (1, 0), "middle": (1, 0), "other": (1, 0), "inner": (1, 0), "holders": ((1, 0),) * 4, "first": KEEP,
             "second": KEEP, "shape": 0, "shapes": (1,), "number": 1, "fillings": ((0, (7,)),), "filling": (0, (7,))},
    powers: {"holder": (1,), "one": (1,), "other": (1,), "program": ((0, (0,)),)},
    standings: {"holder": (2,), "standing": BACK, "land": LAND, "first": ((0, (0,)),), "second": ((0, (0, 1, 1, 0)),)},
    worlds: {"land": LAND, "world": WORLD},
    lands: {"land": LAND, "one": LAND, "other": ((1,), ((0, ((0, (0,)),)),)), "program": ((0, (1,)),)},
    books: {"holder": (0, 1), "book": MAYBE, "thing": 5, "filling": (1, (0,)), "fillings": ((1, (7,)),), "places": 2,
            "table": ((0, 0), (0, 1)), "goal": (0, 1), "other": MAYBE, "program": ((0, ()), (1, (0,)))},
    exchanges: {"one": LAND, "other": LAND, "exchange": ((0, (0, 2, 1, 3)),)},
}


class Interface(unittest.TestCase):

    def test_names_stand_in_their_files_with_their_parameters(self):
        for module, functions in INTERFACE.items():
            for name, parameters in functions.items():
                function = getattr(module, name)
                self.assertTrue(inspect.isfunction(function), name)
                self.assertEqual(function.__module__, module.__name__, name)
                told = inspect.signature(function).parameters.values()
                self.assertEqual([one.name for one in told], parameters, name)
                for one in told:
                    self.assertEqual(one.kind, one.POSITIONAL_OR_KEYWORD, name)
                    self.assertIs(one.default, one.empty, name)

    def test_parameters_are_passed_by_position_or_by_name(self):
        for module, functions in INTERFACE.items():
            for name, parameters in functions.items():
                told = {**PASSED, **PASSED_THERE.get(module, {})}
                passed = {one: told[one] for one in parameters}
                if name == "need_holder":
                    passed = {"value": (2, 1)}
                if name == "flattened":
                    passed["filling"] = (2, (7,))
                function = getattr(module, name)
                by_position = function(*passed.values())
                self.assertEqual(function(**passed), by_position, name)
                turned = dict(reversed(list(passed.items())))
                self.assertEqual(function(**turned), by_position, name)
                first = parameters[0]
                rest = {one: passed[one] for one in parameters[1:]}
                self.assertEqual(function(passed[first], **rest), by_position, name)


if __name__ == "__main__":
    unittest.main()
