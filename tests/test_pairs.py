"""[7], [38], [39] Matched pairs of lands of one room, and split lands."""

import unittest
from itertools import product

from holdfills.errors import BadExchange, BadParameter, TooGreat
from holdfills.exchanges import all_exchanges, land_together, need_exchange
from holdfills.lands import land_added, land_beside
from holdfills.pairs import all_matched, exchange_of, is_split, matched_by, matched_of, need_matched
from landed import BACK, END, LandCase, TWO_ROOMS
from landed import apart_land, blocks_land, lands, turning_land
from samples import MOST, Number, STRANGE, STRANGE_INTEGERS, STRANGE_TUPLES, plain_throughout, rows

TURN = turning_land(2)
ALONE = (((0, 0), (1, 0)), ((0, 1), (1, 1)))
SMALL = lands((1,), (2,))
SEVERAL = [((), ()), ((2, 1), TWO_ROOMS), apart_land(2, 2), blocks_land(60, 12)]
PAIRS = list(product(SMALL, SMALL)) + list(product(lands((2,)), [turning_land(3)])) + [(turning_land(3), land) for land in lands((2,))]


def then(land, p, q):
    """Return the place "P, then Q" of a land of one room."""
    return land[1][0][1][p][1][q]


def here(land):
    return land[1][0][0]


def size(land):
    return land[0][0]


def first_broken_match(one, other, matched):
    """Return the first rule of [38] that is broken, the least rule first, then ascending, or None."""
    e, f = here(one), here(other)
    places, others = range(size(one)), range(size(other))
    for q in others:
        if matched[q][e] != (e, q):
            return 0, q
    for p in places:
        if matched[f][p] != (p, f):
            return 1, p
    for q, p, r in product(others, places, places):
        p1, q1 = matched[q][p]
        p2, q2 = matched[q1][r]
        if matched[q][then(one, p, r)] != (then(one, p1, p2), q2):
            return 2, q, p, r
    for q, r, p in product(others, others, places):
        p1, r1 = matched[r][p]
        p2, q2 = matched[q][p1]
        if matched[then(other, q, r)][p] != (p2, then(other, q2, r1)):
            return 3, q, r, p
    return None


def forms(one, other):
    """Return all that has the form of a matched pair."""
    pairs = list(product(range(size(one)), range(size(other))))
    return product(list(product(pairs, repeat=size(one))), repeat=size(other))


def all_found(one, other):
    """Return all matched pairs, found apart from the program among those that keep the rules 0 and 1."""
    e, f = here(one), here(other)
    pairs = list(product(range(size(one)), range(size(other))))
    ways = [[[(e, q)] if p == e else [(p, f)] if q == f else pairs for p in range(size(one))] for q in range(size(other))]
    return [matched for matched in product(*[list(product(*row)) for row in ways]) if first_broken_match(one, other, matched) is None]


def splits(land, one, other):
    """Return all splits of a land, found apart from the program."""
    def led(part):
        return [row for row in rows(size(land), size(part)) if row[here(part)] == here(land) and all(
            row[then(part, p, q)] == then(land, row[p], row[q]) for p, q in product(range(size(part)), repeat=2))]
    return [(first, second) for first in led(one) for second in led(other)
            if sorted(then(land, p, q) for p in first for q in second) == list(range(size(land)))]


class PairCase(LandCase):

    def asks_for_a_room(self, call):
        """Check that `call`, told what to pass as a land, asks for one of one room."""
        self.asks_for_a_land(call)
        for land in SEVERAL:
            self.refused(BadParameter, {"value": land}, call, land)


class NeedMatched(PairCase):

    def test_all_that_has_the_form(self):
        met = {}
        for one, other in list(product(SMALL, SMALL)):
            for matched in forms(one, other):
                broken = first_broken_match(one, other, matched)
                met[broken and broken[0]] = met.get(broken and broken[0], 0) + 1
                if broken is None:
                    self.assertEqual(need_matched(one, other, matched), matched)
                else:
                    self.refused(BadExchange, {"place": broken}, need_matched, one, other, matched)
        self.assertEqual(sorted(rule for rule in met if rule is not None), [0, 1, 2, 3])

    def test_the_example(self):
        self.assertEqual(all_matched(((2,), BACK), ((2,), BACK)), (ALONE,))
        self.assertEqual(need_matched(TURN, TURN, ALONE), ALONE)
        self.assertEqual(ALONE[1][1], (1, 1))

    def test_each_rule_alone_with_the_least_numbers(self):
        three = turning_land(3)
        good = tuple(tuple((p, q) for p in range(3)) for q in range(3))
        self.assertEqual(need_matched(three, three, good), good)

        def wrong(*changes):
            found = [list(row) for row in good]
            for q, p, pair in changes:
                found[q][p] = pair
            return tuple(map(tuple, found))

        met = set()
        pairs = list(product(range(3), repeat=2))
        for q, p in pairs:
            for pair in pairs:
                matched = wrong((q, p, pair))
                broken = first_broken_match(three, three, matched)
                met.add(broken)
                if broken is not None:
                    self.refused(BadExchange, {"place": broken}, need_matched, three, three, matched)
        self.assertGreaterEqual({rule[0] for rule in met if rule}, {0, 1, 2})
        # The lesser rule first, wherever it is broken.
        for matched, place in ((wrong((2, 0, (1, 2)), (0, 1, (2, 0))), (0, 2)), (wrong((0, 2, (1, 0)), (1, 1, (2, 2))), (1, 2)),
                               (wrong((1, 0, (0, 2)), (2, 0, (1, 1))), (0, 1)), (wrong((1, 1, (2, 1))), (2, 1, 1, 1))):
            self.assertEqual(first_broken_match(three, three, matched), place)
            self.refused(BadExchange, {"place": place}, need_matched, three, three, matched)
        # The rule 3 alone: whoever goes 1 of the second land stays where a first part is turned, but 2 does not turn it back.
        mirror = tuple(tuple((p if q == 0 else -p % 3, q) for p in range(3)) for q in range(3))
        self.assertEqual(first_broken_match(three, three, mirror)[0], 3)
        self.refused(BadExchange, {"place": first_broken_match(three, three, mirror)}, need_matched, three, three, mirror)
        two = tuple(tuple((p if q == 0 else -p % 3, q) for p in range(3)) for q in range(2))
        self.assertEqual(need_matched(three, TURN, two), two)

    def test_the_form(self):
        for bad in STRANGE + STRANGE_TUPLES + STRANGE_INTEGERS + [(), ALONE[:1], ALONE + ALONE[:1], list(ALONE), dict(enumerate(ALONE))]:
            self.refused(BadExchange, {"place": ()}, need_matched, TURN, TURN, bad)
        for bad in STRANGE + STRANGE_TUPLES + [(), ALONE[1][:1], ALONE[1] + ALONE[1][:1], list(ALONE[1])]:
            self.refused(BadExchange, {"place": ()}, need_matched, TURN, TURN, (ALONE[0], bad))
            self.refused(BadExchange, {"place": ()}, need_matched, TURN, TURN, (bad, ALONE[1]))
        for bad in STRANGE + STRANGE_TUPLES + [(), (0,), (0, 2), (2, 0), (-1, 0), (0, 0, 0), [0, 0], (0, MOST), "00"]:
            self.refused(BadExchange, {"place": ()}, need_matched, TURN, TURN, (ALONE[0], (ALONE[1][0], bad)))
        for bad in STRANGE + STRANGE_INTEGERS + [2]:
            self.refused(BadExchange, {"place": ()}, need_matched, TURN, TURN, (ALONE[0], (ALONE[1][0], (bad, 1))))
            self.refused(BadExchange, {"place": ()}, need_matched, TURN, TURN, (ALONE[0], (ALONE[1][0], (1, bad))))
        # A row for each place of the second land, with a pair for each place of the first one.
        self.refused(BadExchange, {"place": ()}, need_matched, turning_land(3), TURN, (((0, 0),) * 2,) * 3)
        self.refused(BadExchange, {"place": (0, 1)}, need_matched, turning_land(3), TURN, (((0, 0), (1, 0), (2, 0)),) * 2)
        # The form comes ahead of the rules.
        self.refused(BadExchange, {"place": ()}, need_matched, TURN, TURN, (((1, 1),) * 2, ((1, 1), (2, 1))))

    def test_the_errors_in_their_order(self):
        several = SEVERAL[1]
        for call in (need_matched, exchange_of, matched_of, lambda one, other, _: all_matched(one, other)):
            self.asks_for_a_room(lambda land: call(land, None, None))
            self.asks_for_a_room(lambda land: call(turning_land(12), land, None))
            self.refused(BadParameter, {"value": several}, call, several, None, None)
            self.refused(BadParameter, {"value": several}, call, several, several, None)

    def test_at_the_bounds(self):
        twelve = turning_land(12)
        good = tuple(tuple((p, q) for p in range(12)) for q in range(12))
        self.assertEqual(self.quick(need_matched, twelve, twelve, good), good)
        wrong = good[:11] + (good[11][:11] + ((11, 10),),)
        self.refused(BadExchange, {"place": first_broken_match(twelve, twelve, wrong)}, need_matched, twelve, twelve, wrong)


class AllMatched(PairCase):

    def test_all_of_small_lands(self):
        found = 0
        for one, other in PAIRS:
            if (size(one), size(other)) in ((2, 3), (3, 2)) or size(one) * size(other) <= 4:
                expected = all_found(one, other)
                self.assertEqual(self.quick(all_matched, one, other), tuple(expected))
                found += len(expected)
                for matched in expected:
                    self.assertEqual(need_matched(one, other, matched), matched)
        self.assertGreater(found, 50)

    def test_matched_pairs_are_the_exchanges(self):
        for one, other in product(SMALL, SMALL):
            matched = all_matched(one, other)
            exchanges = all_exchanges(one, other)
            self.assertEqual(sorted(exchange_of(one, other, pair) for pair in matched), list(exchanges))
            self.assertEqual(sorted(matched_of(one, other, exchange) for exchange in exchanges), list(matched))
        for one, other in PAIRS:
            if size(one) * size(other) == 6:
                for pair in all_matched(one, other):
                    exchange = exchange_of(one, other, pair)
                    self.assertEqual(need_exchange(one, other, exchange), exchange)
                    self.assertEqual(matched_of(one, other, exchange), pair)

    def test_12_and_13_and_400(self):
        for one, other in ((turning_land(12), END), (END, turning_land(12)), (turning_land(2), turning_land(3)), (turning_land(3), TURN)):
            found = self.quick(all_matched, one, other)
            self.assertEqual(list(found), all_found(one, other))
            self.assertGreater(len(found), 0)
        self.assertEqual(all_matched(END, END), ((((0, 0),),),))
        # 6 with the exponent 2 is 36; 8 with 3, 9 with 4 and 12 with 6 are too many.
        for one, other in ((turning_land(2), turning_land(4)), (turning_land(4), TURN), (turning_land(3), turning_land(3)),
                           (turning_land(3), turning_land(4)), (turning_land(2), turning_land(6)), (turning_land(5), TURN)):
            self.quick(self.refused, TooGreat, {"most": 400}, all_matched, one, other)
        for one, other in ((turning_land(7), TURN), (TURN, turning_land(7)), (turning_land(4), turning_land(4)), (turning_land(12), turning_land(12)),
                           (turning_land(3), turning_land(5)), (turning_land(12), TURN)):
            self.quick(self.refused, TooGreat, {"most": 12}, all_matched, one, other)


class Exchanges(PairCase):

    def test_the_places_get_their_things(self):
        for one, other in PAIRS:
            for matched in all_found(one, other):
                ((shape, places),) = exchange_of(one, other, matched)
                self.assertEqual(shape, 0)
                spots = list(product(range(size(one)), range(size(other))))
                for (q, p), place in zip(product(range(size(other)), range(size(one))), places):
                    self.assertEqual(spots[place], matched[q][p])

    def test_to_the_letter(self):
        self.assertEqual(exchange_of(TURN, TURN, ALONE), ((0, (0, 2, 1, 3)),))
        self.assertEqual(matched_of(TURN, TURN, ((0, (0, 2, 1, 3)),)), ALONE)
        # The three turns and the mirror, which turns them about.
        mirror = tuple(tuple((p if q == 0 else -p % 3, q) for p in range(3)) for q in range(2))
        self.assertEqual(exchange_of(turning_land(3), TURN, mirror), ((0, (0, 2, 4, 1, 5, 3)),))
        self.assertEqual(matched_of(turning_land(3), TURN, ((0, (0, 2, 4, 1, 5, 3)),)), mirror)

    def test_the_last_parameter(self):
        for bad in STRANGE + STRANGE_TUPLES + STRANGE_INTEGERS + [(), ((0, (0, 1, 2)),), ((1, (0, 2, 1, 3)),), ((0, (0, 2, 1, 4)),), ALONE]:
            self.refused(BadExchange, {"place": ()}, matched_of, TURN, TURN, bad)
        for bad in STRANGE + STRANGE_TUPLES + STRANGE_INTEGERS + [(), ((0, (0, 2, 1, 3)),), ALONE[:1]]:
            self.refused(BadExchange, {"place": ()}, exchange_of, TURN, TURN, bad)
        self.refused(BadExchange, {"place": (0, 0)}, matched_of, TURN, TURN, ((0, (0, 1, 2, 3)),))
        self.refused(BadExchange, {"place": (2, 0)}, matched_of, TURN, TURN, ((0, (0, 2, 1, 2)),))
        self.refused(BadExchange, {"place": (0, 0)}, exchange_of, TURN, TURN, (((1, 0), (1, 0)), ALONE[1]))

    def test_more_than_12_ahead_of_the_last_parameter(self):
        for one, other in ((turning_land(7), TURN), (turning_land(4), turning_land(4)), (turning_land(12), turning_land(12))):
            good = tuple(tuple((p, q) for p in range(size(one))) for q in range(size(other)))
            for last in (None, (), good):
                self.refused(TooGreat, {"most": 12}, exchange_of, one, other, last)
                self.refused(TooGreat, {"most": 12}, matched_of, one, other, last)
            self.assertEqual(need_matched(one, other, good), good)
        for one, other in ((turning_land(4), turning_land(3)), (turning_land(12), END), (END, turning_land(12)), (turning_land(6), TURN)):
            good = tuple(tuple((p, q) for p in range(size(one))) for q in range(size(other)))
            exchange = self.quick(exchange_of, one, other, good)
            self.assertEqual(self.quick(matched_of, one, other, exchange), good)


class Splits(PairCase):

    def test_all_splits_of_small_lands(self):
        tried = 0
        for one, other in product(SMALL, SMALL):
            for land in lands((size(one) * size(other),)) if size(one) * size(other) < 4 else [turning_land(4), land_beside(TURN, TURN)]:
                told = splits(land, one, other)
                for value in product(rows(size(land), size(one)), rows(size(land), size(other))):
                    self.assertIs(is_split(land, one, other, value), value in told)
                for split in told:
                    matched = matched_by(land, one, other, split)
                    first, second = split
                    self.assertEqual(need_matched(one, other, matched), matched)
                    for q, p in product(range(size(other)), range(size(one))):
                        p1, q1 = matched[q][p]
                        self.assertEqual(then(land, second[q], first[p]), then(land, first[p1], second[q1]))
                    tried += 1
        self.assertGreater(tried, 5)

    def test_each_matched_pair_is_that_of_a_split(self):
        tried = 0
        for one, other in PAIRS:
            for matched in all_found(one, other):
                land = land_together(one, other, exchange_of(one, other, matched))
                more = size(other)
                split = (tuple(p * more + here(other) for p in range(size(one))), tuple(here(one) * more + q for q in range(more)))
                self.assertIs(is_split(land, one, other, split), True)
                self.assertEqual(matched_by(land, one, other, split), matched)
                tried += 1
        self.assertGreater(tried, 50)

    def test_to_the_letter(self):
        # The turns of a triangle and a mirror: all six ways to lay it down are a turn and then the mirror or not.
        mirror = tuple(tuple((p if q == 0 else -p % 3, q) for p in range(3)) for q in range(2))
        land = land_together(turning_land(3), TURN, exchange_of(turning_land(3), TURN, mirror))
        self.assertEqual(len(splits(land, turning_land(3), TURN)), 2 * 3)
        self.assertEqual(matched_by(land, turning_land(3), TURN, ((0, 2, 4), (0, 1))), mirror)
        self.assertIs(is_split(turning_land(6), turning_land(3), TURN, ((0, 2, 4), (0, 3))), True)
        self.assertEqual(matched_by(turning_land(6), turning_land(3), TURN, ((0, 2, 4), (0, 3))),
                         tuple(tuple((p, q) for p in range(3)) for q in range(2)))
        self.assertEqual(splits(turning_land(4), TURN, TURN), [])

    def test_values_of_any_kind(self):
        land, one, other = turning_land(6), turning_land(3), TURN
        wrong = [(), ((0, 2, 4),), ((0, 2, 4), (0, 3), ()), [(0, 2, 4), (0, 3)], ([0, 2, 4], (0, 3)), ((0, 2, 4), [0, 3]), ((0, 3), (0, 2, 4)),
                 ((0, 2, 6), (0, 3)), ((0, 2, -1), (0, 3)), ((0, 2), (0, 3)), ((0, 2, 4, 0), (0, 3)), ((0, 2, 4), (0, 3, 0)),
                 ((0, 4, 4), (0, 3)), ((2, 0, 4), (0, 3)), ((0, 2, 4), (3, 0)), ((0, 2, 4), (0, 0)), ((0, 0, 0), (0, 3)), ((0, 2, 4), (0, 2)),
                 ((0, 2, 4), (0, MOST)), {0: (0, 2, 4), 1: (0, 3)}, "ab"]
        for value in STRANGE + STRANGE_TUPLES + STRANGE_INTEGERS + wrong:
            self.assertIs(is_split(land, one, other, value), False)
            self.refused(BadParameter, {"value": value}, matched_by, land, one, other, value)
        for value in STRANGE + STRANGE_INTEGERS:
            for bad in (((0, 2, value), (0, 3)), ((0, 2, 4), (value, 3)), (value, (0, 3)), ((0, 2, 4), value)):
                self.assertIs(is_split(land, one, other, bad), False)
                self.refused(BadParameter, {"value": bad}, matched_by, land, one, other, bad)

    def test_the_errors_in_their_order(self):
        for call in (is_split, matched_by):
            self.asks_for_a_room(lambda land: call(land, None, None, None))
            self.asks_for_a_room(lambda land: call(TURN, land, None, None))
            self.asks_for_a_room(lambda land: call(TURN, TURN, land, None))
        self.assertIs(is_split(TURN, land_added(END, ((), ())), TURN, ((0,), (0, 1))), True)

    def test_at_the_bounds(self):
        for one, other in ((turning_land(4), turning_land(3)), (turning_land(12), END), (END, turning_land(12)), (turning_land(12), turning_land(12))):
            first = tuple(p * (12 // size(one)) for p in range(size(one)))
            second = tuple(q * (12 // size(other)) for q in range(size(other)))
            good = size(one) * size(other) == 12
            self.assertIs(self.quick(is_split, turning_land(12), one, other, (first, second)), good)
            if good:
                self.assertEqual(self.quick(matched_by, turning_land(12), one, other, (first, second)),
                                 tuple(tuple((p, q) for p in range(size(one))) for q in range(size(other))))

    def test_only_plain_values_come_back(self):
        def numbers(value):
            return tuple(map(numbers, value)) if isinstance(value, tuple) else Number(value)
        turn, alone = numbers(TURN), numbers(ALONE)
        for found in (need_matched(turn, turn, alone), all_matched(turn, turn), exchange_of(turn, turn, alone),
                      matched_of(turn, turn, numbers(((0, (0, 2, 1, 3)),))),
                      matched_by(numbers(land_beside(TURN, TURN)), turn, turn, numbers(((0, 2), (0, 1))))):
            self.assertTrue(plain_throughout(found))


if __name__ == "__main__":
    unittest.main()
