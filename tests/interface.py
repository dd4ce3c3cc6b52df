"""The interface as the document lists it, and what the tests pass to each of its functions."""

from holdfills import books, comparers, counts, cuts, deeds, exchanges, fillings, holders, inside, lands, lifts, likeness
from holdfills import lives, lots, needs, networks, pairs, partings, powers, programs, rankers, risers, standings, windows
from holdfills import worlds

INTERFACE = {
    holders: {
        "need_holder": ["value"],
        "plain_form": ["holder"],
        "count_fillings": ["holder", "many"],
    },
    fillings: {
        "need_filling": ["holder", "filling"],
        "all_fillings": ["holder", "many"],
        "own_filling": ["holder", "shape"],
        "renamed": ["holder", "filling", "names"],
    },
    programs: {
        "need_program": ["holder", "goal", "program"],
        "done": ["holder", "goal", "program", "filling"],
        "one_behind": ["holder", "middle", "goal", "first", "second"],
        "still": ["holder"],
        "count_programs": ["holder", "goal"],
        "all_programs": ["holder", "goal"],
        "program_of": ["holder", "goal", "answers"],
        "told_apart": ["holder", "goal", "one", "other"],
        "is_apart": ["holder", "goal", "one", "other", "value"],
        "is_one_to_one": ["holder", "goal", "program"],
        "is_onto": ["holder", "goal", "program"],
        "back": ["holder", "goal", "program"],
    },
    partings: {
        "need_parting": ["parting"],
        "need_ranking": ["ranking"],
        "parting_of": ["row"],
        "ranking_of": ["row"],
        "all_partings": ["size"],
        "all_rankings": ["size"],
    },
    lots: {
        "need_lot": ["size", "lot"],
        "all_lots": ["size"],
        "lot_rows": ["size", "lot"],
        "lot_of": ["size", "rows"],
    },
    comparers: {
        "need_comparer": ["holder", "goal", "comparer"],
        "comparer_done": ["holder", "goal", "comparer", "filling"],
        "comparer_behind": ["holder", "middle", "goal", "first", "second"],
        "count_comparers": ["holder", "goal"],
        "comparers_apart": ["holder", "goal", "one", "other"],
    },
    rankers: {
        "need_ranker": ["holder", "goal", "ranker"],
        "ranker_done": ["holder", "goal", "ranker", "filling"],
        "ranker_behind": ["holder", "middle", "goal", "first", "second"],
        "count_rankers": ["holder", "goal"],
        "rankers_apart": ["holder", "goal", "one", "other"],
    },
    risers: {
        "need_riser": ["holder", "goal", "riser"],
        "riser_done": ["holder", "goal", "riser", "filling"],
        "riser_behind": ["holder", "middle", "goal", "first", "second"],
        "count_risers": ["holder", "goal"],
        "risers_apart": ["holder", "goal", "one", "other"],
    },
    needs: {
        "as_comparer": ["holder", "goal", "program"],
        "as_riser": ["holder", "goal", "program"],
        "comparer_as_ranker": ["holder", "goal", "comparer"],
        "riser_as_ranker": ["holder", "goal", "riser"],
        "needs_only": ["holder", "goal", "ranker"],
    },
    networks: {
        "is_sorter": ["size", "riser"],
        "unsorted_row": ["size", "riser"],
        "sorter": ["size"],
        "network": ["size", "steps"],
    },
    counts: {
        "fillings_line": ["holder"],
        "same_counts": ["one", "other"],
        "counts_apart": ["one", "other"],
        "taken_off": ["one", "other"],
        "quotient": ["one", "other"],
    },
    cuts: {
        "all_cuts": ["holder"],
        "holes": ["holder"],
        "hole_filled": ["holder", "shape", "place", "things", "thing"],
    },
    deeds: {
        "added": ["one", "other"],
        "multiplied": ["one", "other"],
        "beside": ["one", "other"],
        "into_first": ["one", "other"],
        "into_second": ["one", "other"],
        "either": ["one", "other", "goal", "first", "second"],
        "first_of": ["one", "other"],
        "second_of": ["one", "other"],
        "paired": ["holder", "one", "other", "first", "second"],
        "both_added": ["holders", "first", "second"],
        "both_multiplied": ["holders", "first", "second"],
        "both_beside": ["holders", "first", "second"],
    },
    inside: {
        "put_into": ["one", "other"],
        "shape_into": ["one", "other", "shape", "shapes"],
        "parts_into": ["one", "other", "number"],
        "filling_into": ["one", "other", "shape", "fillings"],
        "fillings_out": ["one", "other", "filling"],
        "both_into": ["holders", "first", "second"],
        "regrouped": ["one", "middle", "other"],
        "spread": ["one", "other", "inner"],
        "crossed": ["holders"],
    },
    powers: {
        "program_holder": ["one", "other"],
        "fed": ["holder", "one", "other", "program"],
        "unfed": ["holder", "one", "other", "program"],
        "applied": ["one", "other"],
        "beside_holder": ["one", "other"],
        "fed_beside": ["holder", "one", "other", "program"],
        "unfed_beside": ["holder", "one", "other", "program"],
    },
    standings: {
        "need_standing": ["holder", "standing"],
        "need_land": ["land"],
        "look_here": ["land"],
        "look_all": ["land"],
        "standing_by": ["holder", "first", "second"],
    },
    worlds: {
        "world_of": ["land"],
        "land_of": ["world"],
        "all_standings": ["holder"],
    },
    lands: {
        "land_added": ["one", "other"],
        "land_beside": ["one", "other"],
        "land_turned": ["land"],
        "end_land": ["holder"],
        "has_backs": ["land"],
        "is_thin": ["land"],
        "is_keeping": ["one", "other", "program"],
        "broken_keeping": ["one", "other", "program"],
        "all_keeping": ["one", "other"],
    },
    books: {
        "need_book": ["holder", "book"],
        "unit_filling": ["holder", "book", "thing"],
        "flattened": ["holder", "book", "filling"],
        "chained": ["holder", "book", "filling", "fillings"],
        "all_books": ["holder"],
        "only_book": ["places"],
        "book_of_table": ["holder", "table"],
        "table_of_book": ["holder", "book"],
        "is_book_map": ["holder", "book", "goal", "other", "program"],
        "product_book": ["holder", "book", "goal", "other"],
    },
    exchanges: {
        "need_exchange": ["one", "other", "exchange"],
        "all_exchanges": ["one", "other"],
        "land_together": ["one", "other", "exchange"],
        "first_look": ["one", "other"],
        "second_look": ["one", "other"],
    },
    pairs: {
        "need_matched": ["one", "other", "matched"],
        "all_matched": ["one", "other"],
        "exchange_of": ["one", "other", "matched"],
        "matched_of": ["one", "other", "exchange"],
        "is_split": ["land", "one", "other", "value"],
        "matched_by": ["land", "one", "other", "split"],
    },
    lives: {
        "need_life": ["holder", "life"],
        "shown": ["holder", "life", "stand", "places"],
        "led_life": ["holder", "goal", "program", "life"],
        "lives_beside": ["holder", "goal", "one", "other"],
        "lives_added": ["holder", "one", "other"],
        "two_steps": ["holder", "life"],
    },
    likeness: {
        "alike_stands": ["holder", "life"],
        "stands_apart": ["holder", "life", "one", "other"],
        "least_life": ["holder", "life", "stand"],
        "is_life_map": ["holder", "one", "other", "value"],
        "all_life_maps": ["holder", "one", "other"],
    },
    lifts: {
        "broken_life": ["land", "life"],
        "is_kept": ["land", "value"],
        "all_kept": ["land", "stands"],
        "free_life": ["land", "shape"],
        "map_by": ["land", "shape", "life", "stand"],
    },
    windows: {
        "window_land": ["views"],
        "need_window": ["stands", "views", "window"],
        "window_life": ["stands", "views", "window"],
        "life_window": ["views", "life"],
        "all_windows": ["stands", "views"],
        "window_behind": ["stands", "between", "views", "first", "second"],
    },
}

PASSED = {
    "value": (0, (1, 0)), "holder": (2, 1), "goal": (2, 1), "middle": (2, 1), "filling": (0, (5, 6)), "many": 2,
    "shape": 1, "names": (0, 1, 2, 3, 4, 5, 6), "program": ((0, (1, 0)), (1, (0,))),
    "first": ((0, (1, 0)), (1, (0,))), "second": ((0, (1, 0)), (1, (0,))), "one": ((0, (1, 0)), (1, (0,))),
    "other": ((0, (0, 1)), (1, (0,))), "answers": ((0, (1, 0)), (1, (0,))),
    "parting": (0, 1, 0), "ranking": (1, 0, 1), "row": (7, 5), "size": 2, "lot": ((0, 1),), "rows": (0, 1, 1, 1),
}
COMPARER = (((0, (0, 0)), (0, (1, 0))), ((1, (0,)),))
RANKER = (((0, (0, 0)), (0, (1, 0)), (1, (1,))), ((1, (0,)),))
RISER = ((0, (((0, 1),), ((0,), (1,)))), (1, (((0,),),)))
STILL = ((0, (((0,),), ((1,),))), (1, (((0,),),)))
KEEP = ((0, (0,)), (1, ()))
BACK = ((0, ((0, (0, 1)), (0, (1, 0)))),)
LAND = ((2,), BACK)
WORLD = (1, ((0, 0), (0, 0)), (0,), ((0, 1), (1, 0)))
MAYBE = (1, ((0, ()), (0, ()), (1, (0,))))
FOUR = ((4,), ((0, ((0, (0, 1, 2, 3)), (0, (1, 0, 3, 2)), (0, (2, 3, 0, 1)), (0, (3, 2, 1, 0)))),))
MATCHED = (((0, 0), (1, 0)), ((0, 1), (1, 1)))
LIFE = ((0, (1, 2)), (0, (0, 2)), (1, ()))
WINDOW = ((0, 1), ((0, 1), (0, 1)))
# What is passed in one module alone.
PASSED_THERE = {
    comparers: {"comparer": COMPARER, "first": COMPARER, "second": COMPARER, "one": COMPARER,
                "other": (((0, (0, 0)), (0, (0, 1))), ((1, (0,)),))},
    rankers: {"ranker": RANKER, "first": RANKER, "second": RANKER, "one": RANKER,
              "other": (((0, (0, 0)), (0, (0, 1)), (1, (1,))), ((1, (0,)),))},
    risers: {"riser": RISER, "first": RISER, "second": RISER, "one": RISER, "other": STILL},
    needs: {"comparer": COMPARER, "riser": RISER, "ranker": RANKER},
    networks: {"riser": STILL[:1], "steps": ((0, 1),)},
    counts: {"one": (1, 2, 2, 3), "other": (1,)},
    cuts: {"shape": 0, "place": 1, "things": (5,), "thing": 6},
    deeds: {"one": (2, 1), "other": (2, 1), "holders": ((2, 1),) * 4},
    inside: {"one": (1, 0), "middle": (1, 0), "other": (1, 0), "inner": (1, 0), "holders": ((1, 0),) * 4, "first": KEEP,
             "second": KEEP, "shape": 0, "shapes": (1,), "number": 1, "fillings": ((0, (7,)),), "filling": (0, (7,))},
    powers: {"holder": (1,), "one": (1,), "other": (1,), "program": ((0, (0,)),)},
    standings: {"holder": (2,), "standing": BACK, "land": LAND, "first": ((0, (0,)),), "second": ((0, (0, 1, 1, 0)),)},
    worlds: {"land": LAND, "world": WORLD},
    lands: {"land": LAND, "one": LAND, "other": ((1,), ((0, ((0, (0,)),)),)), "program": ((0, (1,)),)},
    books: {"holder": (0, 1), "book": MAYBE, "thing": 5, "filling": (1, (0,)), "fillings": ((1, (7,)),), "places": 2,
            "table": ((0, 0), (0, 1)), "goal": (0, 1), "other": MAYBE, "program": ((0, ()), (1, (0,)))},
    exchanges: {"one": LAND, "other": LAND, "exchange": ((0, (0, 2, 1, 3)),)},
    pairs: {"one": LAND, "other": LAND, "matched": MATCHED, "exchange": ((0, (0, 2, 1, 3)),), "land": FOUR, "split": ((0, 2), (0, 1)),
            "value": ((0, 2), (0, 1))},
    lives: {"holder": (2, 0), "goal": (2, 0), "program": ((0, (1, 0)), (1, ())), "life": LIFE, "one": LIFE, "other": LIFE, "stand": 0,
            "places": (0, 1)},
    likeness: {"holder": (2, 0), "life": LIFE, "one": LIFE, "other": LIFE, "stand": 1, "value": (0, 1, 2)},
    lifts: {"land": LAND, "life": ((0, (0, 1)), (0, (1, 0))), "value": ((0, (0, 1)), (0, (1, 0))), "stands": 2, "shape": 0, "stand": 1},
    windows: {"stands": 2, "views": 2, "between": 2, "window": WINDOW, "first": WINDOW, "second": WINDOW, "life": ((0, (0, 1)), (1, (0, 1)))},
}
# What is passed to one function alone.
PASSED_TO = {
    "need_holder": {"value": (2, 1)},
    "flattened": {"filling": (2, (7,))},
    "stands_apart": {"one": 0, "other": 2},
    "broken_life": {"life": ((0, (0, 1)), (0, (1, 2)), (0, (2, 0)))},
    "broken_keeping": {"other": LAND, "program": ((0, (1, 0)),)},
}


def told(module, name):
    """Return the parameters of a function, by their names, in their order, with what is passed."""
    passed = {**PASSED, **PASSED_THERE.get(module, {}), **PASSED_TO.get(name, {})}
    return {one: passed[one] for one in INTERFACE[module][name]}
