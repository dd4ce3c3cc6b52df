"""[5], [7], [21], [32] to [35] Books: making one filling of a filling of fillings."""

import unittest
from itertools import product

import spelled
from holdfills.books import all_books, book_of_table, chained, flattened, is_book_map, need_book, only_book, product_book
from holdfills.books import table_of_book, unit_filling
from holdfills.deeds import first_of, multiplied, second_of
from holdfills.errors import BadBook, BadFilling, BadHolder, BadParameter, BadProgram, NoRow, TooGreat
from holdfills.holders import count_fillings
from holdfills.inside import fillings_out, put_into
from holdfills.programs import count_programs, one_behind, still
from landed import GREAT, LandCase
from samples import MOST, Number, STRANGE, STRANGE_INTEGERS, STRANGE_TUPLES
from samples import fillings, lead, plain_throughout, programs, rows

# Holders of which all that may be books can be gone through.
SMALL = [(), (0,), (1,), (2,), (0, 0), (0, 1), (1, 0), (1, 1), (0, 0, 0), (1, 0, 0), (0, 1, 0), (0, 0, 1), (0, 1, 1), (1, 0, 1), (1, 1, 0)]
# What is too great by itself, with the bound that is told: by shapes, by places, put together three times, and by several.
BEYOND = [((1,) * 8, 60), ((2, 2, 2, 2), 60), ((0,) * 58 + (1, 1), 60), ((4,), 12), ((0, 4), 12), ((0, 0, 0, 2, 2), 5000), ((3, 3), 5000),
          ((1, 2, 2, 2), 5000), ((0, 4, 4), 60), ((4, 0, 0), 60), (GREAT, 60), ((12,), 12), ((5, 0), 12), ((0, 0, 3), 5000)]
NO_PROGRAM = STRANGE + STRANGE_INTEGERS + [[(0, (0,))], {0: (0, (0,))}]
MAYBE = (1, ((0, ()), (0, ()), (1, (0,))))
# The monoid of 0 and 1, added up and left over at 2, on two shapes of one place.
PARITY = (0, ((0, (0,)), (1, (0,)), (1, (0,)), (0, (0,))))
LAST = (1, ((0, ()), (0, ()), (1, (0,)), (2, (0,)), (2, (0,))))


def flatten(holder, book, shape, parts):
    """Return what fillings at the places of a shape are flattened to, found apart from the program."""
    whole = spelled.put_into(holder, holder)
    number = spelled.number_of(whole, (shape, tuple(part for part, _ in parts)))
    return lead(book[1], (number, tuple(thing for _, things in parts for thing in things)))


def whole_of(holder, book, filling):
    return flatten(holder, book, book[0], (filling,) * holder[book[0]])


def each_alone(holder, book, filling):
    return flatten(holder, book, filling[0], tuple((book[0], (thing,) * holder[book[0]]) for thing in filling[1]))


def two_ways(holder, book, number, parts):
    """Return what a filling of fillings of fillings is flattened to, the outer two first, and the inner two first."""
    shape, shapes = spelled.put_into(holder, holder)[number][0]
    to, places = book[1][number]
    outer = flatten(holder, book, to, tuple(parts[place] for place in places))
    rest, inner = list(parts), []
    for part in shapes:
        inner.append(flatten(holder, book, part, tuple(rest[:holder[part]])))
        del rest[:holder[part]]
    return outer, flatten(holder, book, shape, tuple(inner))


def thrice(holder):
    """Return the shapes of the holder put into itself three times: pairs of a number and shapes for its places."""
    return [(number, shapes) for number, size in enumerate(spelled.sizes(spelled.put_into(holder, holder)))
            for shapes in product(range(len(holder)), repeat=size)]


def own_parts(holder, shapes):
    """Return the fillings of these shapes with the things from 0 on."""
    found, start = [], 0
    for shape in shapes:
        found.append((shape, tuple(range(start, start + holder[shape]))))
        start += holder[shape]
    return tuple(found)


def first_broken_book(holder, book):
    """Return the first rule of [32] that is broken at an own filling, or None."""
    own = [(shape, tuple(range(size))) for shape, size in enumerate(holder)]
    for shape, filling in enumerate(own):
        if whole_of(holder, book, filling) != filling:
            return 0, shape
    for shape, filling in enumerate(own):
        if each_alone(holder, book, filling) != filling:
            return 1, shape
    for number, (outer, shapes) in enumerate(thrice(holder)):
        one, other = two_ways(holder, book, outer, own_parts(holder, shapes))
        if one != other:
            return 2, number
    return None


def kept_by(holder, book, many):
    """Tell whether the three rules of [32] are kept at all fillings by so many things."""
    told = fillings(holder, many)
    if not all(whole_of(holder, book, filling) == filling == each_alone(holder, book, filling) for filling in told):
        return False
    for number, size in enumerate(spelled.sizes(spelled.put_into(holder, holder))):
        for parts in product(told, repeat=size):
            one, other = two_ways(holder, book, number, parts)
            if one != other:
                return False
    return True


def forms(holder):
    """Return all that has the form of a book of a holder."""
    flats = programs(spelled.sizes(spelled.put_into(holder, holder)), holder)
    return [(unit, flat) for unit in range(len(holder)) for flat in flats]


def books(holder):
    """Return all books of a holder, found apart from the program."""
    return [form for form in forms(holder) if first_broken_book(holder, form) is None]


def monoids(size):
    """Return all tables of monoids of so many elements."""
    found = []
    for table in product(rows(size, size), repeat=size):
        if any(all(table[u][p] == p == table[p][u] for p in range(size)) for u in range(size)):
            if all(table[p][table[q][r]] == table[table[p][q]][r] for p, q, r in product(range(size), repeat=3)):
                found.append(table)
    return found


def within(holder):
    """Tell whether a holder is within the bounds of [32]."""
    shapes = sum(len(holder) ** size for size in holder)
    places = max(holder, default=0) * max(holder, default=0)
    return shapes <= 60 and places <= 12 and sum(shapes ** size for size in holder) <= 5000


class BookCase(LandCase):
    """A test case that can ask for the errors of a holder with a book."""

    def asks_for_bounds(self, call):
        """Check that `call`, told what to pass as a holder, asks for one that is within the bounds."""
        self.asks_for_a_holder(call)
        for holder, most in BEYOND:
            self.refused(TooGreat, {"most": most}, call, holder)

    def asks_for_a_book(self, call):
        """Check that `call`, told what to pass as a holder and as its book, asks for both."""
        self.asks_for_bounds(lambda holder: call(holder, None))
        for bad in STRANGE + STRANGE_INTEGERS + [(), (1,), MAYBE + (0,), list(MAYBE), dict([MAYBE]), ((0, 1), MAYBE[1], 0)]:
            self.refused(BadBook, {"place": ()}, call, (0, 1), bad)
        for bad in STRANGE + STRANGE_INTEGERS + [2, 60, (), (1,)]:
            self.refused(BadBook, {"place": (0,)}, call, (0, 1), (bad, None))
        for bad in NO_PROGRAM + [(), MAYBE[1][:2], MAYBE[1] + MAYBE[1][:1], MAYBE[1][::-1], list(MAYBE[1]), MAYBE]:
            self.refused(BadBook, {"place": (1,)}, call, (0, 1), (1, bad))
        for bad in STRANGE + STRANGE_TUPLES + [(1, (1,)), (1, ()), (0, (0,)), (2, ()), (1, (0, 0))]:
            self.refused(BadBook, {"place": (1,)}, call, (0, 1), (1, MAYBE[1][:2] + (bad,)))
            self.refused(BadBook, {"place": (1,)}, call, (0, 1), (1, (bad,) + MAYBE[1][1:]))
        self.refused(BadBook, {"place": (0,)}, call, (), (0, ()))
        self.refused(BadBook, {"place": (0, 1)}, call, (0, 1), (0, MAYBE[1]))
        self.refused(BadBook, {"place": (0, 1)}, call, (0, 1), (1, ((0, ()),) * 3))
        self.refused(BadBook, {"place": (1, 1)}, call, (1, 1), (0, ((0, (0,)), (1, (0,)), (0, (0,)), (0, (0,)))))
        self.refused(BadBook, {"place": (2, 13)}, call, (1, 1, 1), (0, tuple((to, (0,)) for to in (0, 1, 2, 1, 2, 2, 2, 1, 2))))


class NeedBook(BookCase):

    def test_all_of_small_holders(self):
        met = {}
        for holder in SMALL:
            for form in forms(holder):
                broken = first_broken_book(holder, form)
                met[broken and broken[0]] = met.get(broken and broken[0], 0) + 1
                if broken is None:
                    self.assertEqual(need_book(holder, form), form)
                else:
                    self.refused(BadBook, {"place": broken}, need_book, holder, form)
        # Where so few shapes and places keep the rules 0 and 1, they keep the rule 2.
        self.assertEqual(sorted(rule for rule in met if rule is not None), [0, 1])

    def test_rules_for_all_sets_are_rules_at_own_fillings(self):
        for holder, many in (((), 1), ((0,), 2), ((1,), 2), ((0, 0), 2), ((0, 1), 3), ((1, 1), 3), ((1, 0, 0), 2)):
            for form in forms(holder):
                kept = first_broken_book(holder, form) is None
                self.assertEqual(kept, all(kept_by(holder, form, few) for few in range(many + 1)))

    def test_the_examples(self):
        self.assertEqual(only_book(2), (0, ((0, (0, 3)),)))
        self.assertEqual(flattened((2,), only_book(2), (0, (5, 6, 7, 8))), (0, (5, 8)))
        self.assertEqual(all_books((0, 1)), ((1, ((0, ()), (0, ()), (1, (0,)))),))
        self.assertEqual(len(all_books((1, 1))), 4)
        turn = book_of_table((1, 1), ((0, 1), (1, 0)))
        self.assertIn(turn, all_books((1, 1)))
        self.assertEqual(flattened((1, 1), turn, (3, (7,))), (0, (7,)))
        self.refused(BadBook, {"place": (1, 0)}, need_book, (2,), (0, ((0, (0, 1)),)))

    def test_each_rule_alone_with_the_least_number(self):
        # The exchange of both things, and others, on one shape of two places.
        for places, place in (((0, 3), None), ((0, 1), (1, 0)), ((0, 2), (0, 0)), ((3, 0), (0, 0)), ((1, 2), (0, 0)), ((2, 3), (1, 0)),
                              ((0, 0), (0, 0)), ((2, 1), (1, 0)), ((1, 3), (0, 0))):
            form = (0, ((0, places),))
            expected = first_broken_book((2,), form)
            self.assertEqual(expected is None, places == (0, 3))
            if place is None:
                self.assertEqual(need_book((2,), form), form)
            else:
                self.refused(BadBook, {"place": expected}, need_book, (2,), form)
        # Of three elements with 0 at both sides of each, all that are no monoids break the rule 2.
        met = set()
        for four in product(range(3), repeat=4):
            table = ((0, 1, 2), (1,) + four[:2], (2,) + four[2:])
            form = (0, tuple((to, (0,)) for row in table for to in row))
            broken = first_broken_book((1, 1, 1), form)
            met.add(broken)
            if broken is None:
                self.assertEqual(need_book((1, 1, 1), form), form)
            else:
                self.assertEqual(broken[0], 2)
                self.refused(BadBook, {"place": broken}, need_book, (1, 1, 1), form)
        self.assertGreater(len(met), 3)

    def test_of_the_only_book_each_change_is_refused(self):
        tried = 0
        for places in rows(9, 3):
            form = (0, ((0, places),))
            if places == (0, 4, 8):
                self.assertEqual(need_book((3,), form), form)
            elif tried < 300:
                tried += 1
                self.refused(BadBook, {"place": first_broken_book((3,), form)}, need_book, (3,), form)

    def test_books_of_great_holders(self):
        # The greatest number of shapes, three times put together, that any holder within the bounds has.
        holder = (0, 0, 1, 1, 1, 2)
        self.assertEqual(count_fillings(holder, len(put_into(holder, holder))), 3306)
        book = self.quick(product_book, (0, 1), MAYBE, (0, 0, 1), (2, ((0, ()), (1, ()), (0, ()), (1, ()), (2, (0,)))))
        self.assertEqual(multiplied((0, 1), (0, 0, 1)), holder)
        self.assertEqual(self.quick(need_book, holder, book), book)
        flat = list(book[1])
        # The last shape of those put into the last one, with one of its things taken for the other one.
        flat[-1] = (flat[-1][0], flat[-1][1][:1] * 2)
        wrong = (book[0], tuple(flat))
        place = first_broken_book(holder, wrong)
        self.quick(self.refused, BadBook, {"place": place}, need_book, holder, wrong)
        other = (1, 2, 1, 2)
        self.assertEqual(count_fillings(other, len(put_into(other, other))), 3280)
        book = self.quick(product_book, (1, 1), PARITY, (0, 1), MAYBE)
        self.assertEqual(self.quick(need_book, other, book), book)
        self.assertEqual(first_broken_book(other, book), None)
        for at, (to, places) in enumerate(book[1]):
            for wrong in ((1 - to % 2 + to // 2 * 2, places), (to, places[::-1])):
                if wrong != (to, places) and len(wrong[1]) == other[wrong[0]] and at % 5 == 0:
                    form = (book[0], book[1][:at] + (wrong,) + book[1][at + 1:])
                    self.refused(BadBook, {"place": first_broken_book(other, form)}, need_book, other, form)

    def test_the_errors(self):
        self.asks_for_a_book(need_book)

    def test_only_plain_values_come_back(self):
        def numbers(value):
            return tuple(map(numbers, value)) if isinstance(value, tuple) else Number(value)
        passed = numbers((0, 1)), numbers(MAYBE)
        for found in (need_book(*passed), unit_filling(*passed, Number(5)), flattened(*passed, numbers((2, (7,)))),
                      chained(*passed, numbers((1, (0,))), numbers(((1, (7,)),))), all_books(passed[0]), only_book(Number(2)),
                      table_of_book(*passed), book_of_table(passed[0], numbers(((0, 0), (0, 1)))), product_book(*passed, *passed)):
            self.assertTrue(plain_throughout(found))


class Flattened(BookCase):

    def test_things_alone(self):
        for holder in SMALL:
            for book in books(holder):
                for thing in (0, 1, 7, MOST):
                    self.assertEqual(unit_filling(holder, book, thing), (book[0], (thing,) * holder[book[0]]))
        for bad in STRANGE + STRANGE_INTEGERS + [(), (0,)]:
            self.refused(BadParameter, {"value": bad}, unit_filling, (0, 1), MAYBE, bad)

    def test_fillings_of_fillings(self):
        for holder in SMALL:
            for book in books(holder):
                for filling in fillings(put_into(holder, holder), 3):
                    shape, parts = fillings_out(holder, holder, filling)
                    self.assertEqual(flattened(holder, book, filling), flatten(holder, book, shape, parts))
        self.assertEqual(flattened((0, 1), MAYBE, (2, (MOST,))), (1, (MOST,)))

    def test_what_is_no_filling(self):
        for bad in STRANGE + STRANGE_TUPLES + STRANGE_INTEGERS + [(), (3, (0,)), (2, ()), (0, (0,)), (2, (MOST + 1,)), (2, [0]), (2, (0, 0))]:
            self.refused(BadFilling, {"value": bad}, flattened, (0, 1), MAYBE, bad)
        for bad in STRANGE + STRANGE_TUPLES + STRANGE_INTEGERS + [(), (2, (0,)), (1, ()), (0, (0,)), (1, (MOST + 1,)), (1, [0])]:
            self.refused(BadFilling, {"value": bad}, chained, (0, 1), MAYBE, bad, None)

    def test_chained(self):
        for holder in SMALL:
            told = fillings(holder, 2)
            for book in books(holder):
                for shape, things in fillings(holder, 3):
                    for one in product(told, repeat=3):
                        parts = tuple(one[thing] for thing in things)
                        self.assertEqual(chained(holder, book, (shape, things), one), flatten(holder, book, shape, parts))

    def test_the_facts_of_chaining(self):
        for holder in SMALL:
            for book in books(holder):
                told = fillings(holder, 2)
                alone = tuple(unit_filling(holder, book, thing) for thing in range(2))
                for one in list(product(told, repeat=2))[::2]:
                    for thing in range(2):
                        self.assertEqual(chained(holder, book, alone[thing], one), one[thing])
                    for filling in told:
                        self.assertEqual(chained(holder, book, filling, alone), filling)
                        for other in product(told[-2:], repeat=2):
                            twice = chained(holder, book, chained(holder, book, filling, one), other)
                            inner = tuple(chained(holder, book, part, other) for part in one)
                            self.assertEqual(twice, chained(holder, book, filling, inner))

    def test_400_fillings_and_401(self):
        many = tuple((1, (thing,)) for thing in range(400))
        self.assertEqual(chained((0, 1), MAYBE, (1, (399,)), many), (1, (399,)))
        self.refused(NoRow, {}, chained, (0, 1), MAYBE, (1, (400,)), many)
        longer = many + ((0, ()),)
        self.refused(BadParameter, {"value": longer}, chained, (0, 1), MAYBE, (1, (0,)), longer)

    def test_the_fillings(self):
        for bad in STRANGE + STRANGE_INTEGERS + [[(1, (0,))], {0: (1, (0,))}, "ab"]:
            self.refused(BadParameter, {"value": bad}, chained, (0, 1), MAYBE, (1, (0,)), bad)
        for bad in STRANGE + STRANGE_INTEGERS + [(), (2, ()), (1, ()), (0, (0,)), (1, (MOST + 1,)), (1, [0]), [1, (0,)], (1, (0,), 0)]:
            self.refused(BadFilling, {"value": bad}, chained, (0, 1), MAYBE, (0, ()), (bad, None))
            self.refused(BadFilling, {"value": bad}, chained, (0, 1), MAYBE, (1, (9,)), ((1, (0,)), (0, ()), bad))

    def test_a_thing_without_a_filling(self):
        self.refused(NoRow, {}, chained, (0, 1), MAYBE, (1, (0,)), ())
        self.refused(NoRow, {}, chained, (2,), only_book(2), (0, (0, 1)), ((0, (5, 6)),))
        self.refused(NoRow, {}, chained, (2,), only_book(2), (0, (MOST, 0)), ((0, (5, 6)),))
        self.assertEqual(chained((0, 1), MAYBE, (0, ()), ()), (0, ()))
        self.assertEqual(chained((2,), only_book(2), (0, (0, 0)), ((0, (5, 6)),)), (0, (5, 6)))

    def test_the_errors_in_their_order(self):
        self.asks_for_a_book(lambda holder, book: unit_filling(holder, book, None))
        self.asks_for_a_book(lambda holder, book: flattened(holder, book, None))
        self.asks_for_a_book(lambda holder, book: chained(holder, book, None, None))


class AllBooks(BookCase):

    def test_all_of_small_holders(self):
        for holder in SMALL + [(0, 0, 0)]:
            found = self.quick(all_books, holder)
            self.assertEqual(list(found), sorted(books(holder)))
            # FLAT tells UNIT.
            self.assertEqual(len(set(flat for _, flat in found)), len(found))

    def test_holders_with_one_book_and_with_none(self):
        for size in (0, 1, 2):
            self.assertEqual(all_books((size,)), (only_book(size),))
        for holder in ((0, 1), (1, 0), (1, 0, 0), (0, 1, 0), (0, 0, 1)):
            (book,) = all_books(holder)
            self.assertEqual(book[0], holder.index(1))
        for holder in ((), (0, 0), (0, 0, 0)):
            self.assertEqual(all_books(holder), ())

    def test_monoids(self):
        found = all_books((1, 1))
        self.assertEqual([table_of_book((1, 1), book) for book in found], sorted(monoids(2), key=lambda table: (
            [all(table[u][p] == p == table[p][u] for p in range(2)) for u in range(2)].index(True), table)))
        self.assertEqual(len(monoids(3)), 33)
        for table in monoids(3):
            book = book_of_table((1, 1, 1), table)
            self.assertEqual(need_book((1, 1, 1), book), book)
            self.assertEqual(table_of_book((1, 1, 1), book), table)

    def test_400_to_try_and_more(self):
        # So many shapes, times so many programs from the holder put into itself.
        for holder, tried in (((0, 1, 1), 243), ((1, 0, 0), 144), ((0, 0, 0), 81), ((1, 1), 32)):
            self.assertEqual(len(holder) * count_programs(put_into(holder, holder), holder), tried)
            self.assertEqual(list(self.quick(all_books, holder)), sorted(books(holder)))
        for holder in ((3,), (0, 2), (0,) * 4, (1, 1, 1), (1, 0, 0, 0), (2, 1), (0,) * 60, (1,) * 7, (0, 0, 1, 1, 1, 2)):
            self.assertGreater(len(holder) * count_programs(put_into(holder, holder), holder), 400)
            self.quick(self.refused, TooGreat, {"most": 400}, all_books, holder)

    def test_the_holder(self):
        self.asks_for_bounds(all_books)
        for holder, most in BEYOND:
            self.quick(self.refused, TooGreat, {"most": most}, all_books, holder)

    def test_only_book(self):
        for places in range(4):
            book = only_book(places)
            self.assertEqual(book, (0, ((0, tuple(place * places + place for place in range(places))),)))
            self.assertEqual(need_book((places,), book), book)
        for places in range(4, 13):
            self.refused(TooGreat, {"most": 12}, only_book, places)
        for bad in STRANGE + STRANGE_INTEGERS + [13, (), (2,)]:
            self.refused(BadParameter, {"value": bad}, only_book, bad)

    def test_the_only_book_takes_what_is_on_the_way_across(self):
        parts = tuple((0, tuple(10 * p + q for q in range(3))) for p in range(3))
        self.assertEqual(flatten((3,), only_book(3), 0, parts), (0, (0, 11, 22)))


class Tables(BookCase):

    def four_properties(self, holder, table):
        """Tell whether a table has the four properties of [34]."""
        shapes = range(len(holder))
        return (all(table[table[i][j]][k] == table[i][table[j][k]] for i, j, k in product(shapes, repeat=3))
                and any(all(table[u][j] == j == table[j][u] for j in shapes) for u in shapes)
                and all(table[i][j] == i for i in shapes for j in shapes if holder[i] == 0)
                and all(holder[table[i][j]] == 0 for i in shapes for j in shapes if holder[j] == 0))

    def test_books_are_the_tables_with_four_properties(self):
        for holder in [holder for holder in SMALL if max(holder, default=0) < 2 and len(holder) < 3] + [(0, 1, 1), (1, 1, 0)]:
            found = []
            size = len(holder)
            for table in product(rows(size, size), repeat=size):
                if len(holder) == 3 and any(table[i][j] != i for i, j in product(range(3), repeat=2) if holder[i] == 0):
                    if table[0] != table[1]:
                        continue
                if self.four_properties(holder, table):
                    book = book_of_table(holder, table)
                    self.assertEqual(table_of_book(holder, book), table)
                    self.assertEqual(need_book(holder, book), book)
                    found.append(book)
                else:
                    self.refused(BadParameter, {"value": table}, book_of_table, holder, table)
            self.assertEqual(sorted(found), sorted(books(holder)))

    def test_to_the_letter(self):
        self.assertEqual(book_of_table((0, 1), ((0, 0), (0, 1))), MAYBE)
        self.assertEqual(table_of_book((0, 1), MAYBE), ((0, 0), (0, 1)))
        self.assertEqual(book_of_table((1, 1), ((0, 1), (1, 0))), PARITY)
        self.assertEqual(table_of_book((1, 1), PARITY), ((0, 1), (1, 0)))
        self.assertEqual(book_of_table((0,), ((0,),)), (0, ((0, ()),)))
        self.assertEqual(table_of_book((0,), (0, ((0, ()),))), ((0,),))
        # A shape of one place and one without are kept, each behind an unlike one of three.
        self.assertEqual(table_of_book((0, 1, 1), book_of_table((0, 1, 1), ((0, 0, 0), (0, 1, 2), (0, 2, 2)))),
                         ((0, 0, 0), (0, 1, 2), (0, 2, 2)))

    def test_great_tables(self):
        # One shape of one place, and 29 others: 59 shapes put into one another. Then 30 of them: 61.
        for others in (29, 30):
            holder = (1,) + (0,) * others
            table = ((0,) + tuple(range(1, others + 1)),) + tuple((shape,) * (others + 1) for shape in range(1, others + 1))
            if others == 29:
                book = self.quick(book_of_table, holder, table)
                self.assertEqual(self.quick(table_of_book, holder, book), table)
                self.assertEqual(need_book(holder, book), book)
            else:
                self.refused(TooGreat, {"most": 60}, book_of_table, holder, table)
        # Numbers added up and left over at 7.
        table = tuple(tuple((p + q) % 7 for q in range(7)) for p in range(7))
        book = self.quick(book_of_table, (1,) * 7, table)
        self.assertEqual(self.quick(table_of_book, (1,) * 7, book), table)
        self.assertEqual(book[0], 0)
        nothing = tuple((shape,) * 60 for shape in range(60))
        self.quick(self.refused, BadParameter, {"value": nothing}, book_of_table, (0,) * 60, nothing)

    def test_what_is_no_table(self):
        good = ((0, 0), (0, 1))
        for bad in STRANGE + STRANGE_TUPLES + STRANGE_INTEGERS + [(), good[:1], good + good[:1], list(good), ((0, 0), [0, 1]), ((0, 0), (0,)),
                                                                  ((0, 0), (0, 1, 1)), ((0, 0), (0, 2)), ((0, 0), (0, -1)), ((0, 0), "01"),
                                                                  ((0, 1), (0, 1)), ((1, 0), (0, 1)), ((0, 0), (1, 1)), ((0, 0), (0, 0))]:
            self.refused(BadParameter, {"value": bad}, book_of_table, (0, 1), bad)
        for bad in STRANGE + STRANGE_INTEGERS + [(), 2]:
            for table in (((0, 0), (0, bad)), ((0, bad), (0, 1)), ((bad, 0), (0, 1)), (bad, (0, 1)), ((0, 0), bad)):
                self.refused(BadParameter, {"value": table}, book_of_table, (0, 1), table)
        for bad in ((), (0,), ((),)):
            self.refused(BadParameter, {"value": bad}, book_of_table, (), bad)

    def test_shapes_with_more_places(self):
        for function in (book_of_table, table_of_book):
            self.asks_for_a_holder(lambda holder: function(holder, None))
            for holder in ((2,), (0, 1, 2), (12,), (4,), (3, 3), (2,) * 8, GREAT, (1,) * 59 + (2,)):
                self.refused(BadParameter, {"value": holder}, function, holder, None)
            for holder in ((1,) * 8, (1, 1) + (0,) * 30, (1,) * 60):
                self.refused(TooGreat, {"most": 60}, function, holder, None)

    def test_the_book_of_a_table(self):
        for bad in STRANGE + STRANGE_INTEGERS + [(), (1,), MAYBE + (0,)]:
            self.refused(BadBook, {"place": ()}, table_of_book, (0, 1), bad)
        self.refused(BadBook, {"place": (0,)}, table_of_book, (0, 1), (2, None))
        self.refused(BadBook, {"place": (1,)}, table_of_book, (0, 1), (1, None))
        self.refused(BadBook, {"place": (0, 1)}, table_of_book, (0, 1), (0, MAYBE[1]))


class Maps(BookCase):

    def told(self, holder, book, goal, other, program, many):
        """Tell whether a program is a map of books, at all fillings by up to so many things."""
        for few in range(1, many + 1):
            for thing in range(few):
                if lead(program, (book[0], (thing,) * holder[book[0]])) != (other[0], (thing,) * goal[other[0]]):
                    return False
            inner = fillings(holder, few)
            for shape, size in enumerate(holder):
                for parts in product(inner, repeat=size):
                    there = lead(program, flatten(holder, book, shape, parts))
                    to, places = program[shape]
                    led = [lead(program, part) for part in parts]
                    if there != flatten(goal, other, to, tuple(led[place] for place in places)):
                        return False
        return True

    def booked(self, *holders):
        return [(holder, book) for holder in holders for book in books(holder)]

    def test_all_programs_between_small_holders(self):
        maps = 0
        for (holder, book), (goal, other) in product(self.booked((0,), (1,), (2,), (0, 1), (1, 1), (0, 0, 1)), repeat=2):
            for program in programs(holder, goal):
                expected = self.told(holder, book, goal, other, program, 3 if max(holder + goal) < 2 else 2)
                self.assertIs(is_book_map(holder, book, goal, other, program), expected)
                maps += expected
        self.assertGreater(maps, 30)

    def test_maps_of_monoids(self):
        for one, other in product(monoids(3)[:9], monoids(2)):
            for row in rows(2, 3):
                units = [[all(t[u][p] == p == t[p][u] for p in range(len(t))) for u in range(len(t))].index(True) for t in (one, other)]
                maps = row[units[0]] == units[1] and all(
                    row[one[p][q]] == other[row[p]][row[q]] for p, q in product(range(3), repeat=2))
                self.assertIs(is_book_map((1, 1, 1), book_of_table((1, 1, 1), one), (1, 1), book_of_table((1, 1), other),
                                          tuple((to, (0,)) for to in row)), maps)

    def test_to_the_letter(self):
        self.assertIs(is_book_map((1,), only_book(1), (0, 1), MAYBE, ((1, (0,)),)), True)
        self.assertIs(is_book_map((1,), only_book(1), (0, 1), MAYBE, ((0, ()),)), False)
        self.assertIs(is_book_map((2,), only_book(2), (1,), only_book(1), ((0, (1,)),)), True)
        self.assertIs(is_book_map((2,), only_book(2), (2,), only_book(2), ((0, (1, 0)),)), True)
        self.assertIs(is_book_map((1, 1), PARITY, (1,), only_book(1), ((0, (0,)), (0, (0,)))), True)
        self.assertIs(is_book_map((1, 1), PARITY, (1, 1), PARITY, ((1, (0,)), (0, (0,)))), False)

    def test_products_are_books_with_both_halves(self):
        for (holder, book), (goal, other) in product(self.booked((0,), (1,), (2,), (0, 1), (1, 1), (0, 0, 1)), repeat=2):
            both = multiplied(holder, goal)
            if not within(both):
                continue
            found = product_book(holder, book, goal, other)
            self.assertEqual(need_book(both, found), found)
            self.assertTrue(is_book_map(both, found, holder, book, first_of(holder, goal)))
            self.assertTrue(is_book_map(both, found, goal, other, second_of(holder, goal)))
            # The thing alone has the thing alone in both halves.
            self.assertEqual(unit_filling(both, found, 7)[0], book[0] * len(goal) + other[0])
            for shape, size in enumerate(both):
                i, j = divmod(shape, len(goal))
                for parts in list(product(fillings(both, 2), repeat=size))[:40]:
                    halves = [((part // len(goal), things[:holder[part // len(goal)]]),
                               (part % len(goal), things[holder[part // len(goal)]:])) for part, things in parts]
                    one = flatten(holder, book, i, tuple(first for first, _ in halves[:holder[i]]))
                    two = flatten(goal, other, j, tuple(second for _, second in halves[holder[i]:]))
                    self.assertEqual(flatten(both, found, shape, parts), (one[0] * len(goal) + two[0], one[1] + two[1]))

    def test_maps_into_a_product(self):
        kept = 0
        for (holder, book), (one, first), (two, second) in product(self.booked((1,), (0, 1), (1, 1))[:4], self.booked((1,), (0, 1), (1, 1))[:4],
                                                                   self.booked((1,), (0, 1))):
            both = multiplied(one, two)
            whole = product_book(one, first, two, second)
            for program in programs(holder, both):
                halves = (one_behind(holder, both, one, program, first_of(one, two)),
                          one_behind(holder, both, two, program, second_of(one, two)))
                is_map = is_book_map(holder, book, both, whole, program)
                self.assertEqual(is_map, is_book_map(holder, book, one, first, halves[0]) and
                                 is_book_map(holder, book, two, second, halves[1]))
                kept += is_map
        self.assertGreater(kept, 10)

    def test_the_program(self):
        for bad in NO_PROGRAM + [(), ((0, ()),), ((0, ()),) * 3]:
            self.refused(BadProgram, {"place": ()}, is_book_map, (0, 1), MAYBE, (0, 1), MAYBE, bad)
        for bad in STRANGE + STRANGE_TUPLES + [(1, (1,)), (0, (0,)), (2, ()), (1, ())]:
            self.refused(BadProgram, {"place": (0,)}, is_book_map, (0, 1), MAYBE, (0, 1), MAYBE, (bad, None))
            self.refused(BadProgram, {"place": (1,)}, is_book_map, (0, 1), MAYBE, (0, 1), MAYBE, ((0, ()), bad))

    def test_the_errors_in_their_order(self):
        self.asks_for_a_book(lambda holder, book: is_book_map(holder, book, None, None, None))
        self.asks_for_a_book(lambda goal, other: is_book_map((0, 1), MAYBE, goal, other, None))
        self.asks_for_a_book(lambda holder, book: product_book(holder, book, None, None))
        self.asks_for_a_book(lambda goal, other: product_book((0, 1), MAYBE, goal, other))
        # Ahead of the bounds of the product, too.
        wide = (1,) + (0,) * 29
        book = book_of_table(wide, (tuple(range(30)),) + tuple((shape,) * 30 for shape in range(1, 30)))
        self.asks_for_a_book(lambda goal, other: product_book(wide, book, goal, other))

    def test_the_bounds_of_a_product(self):
        def many(others):
            table = (tuple(range(others + 1)),) + tuple((shape,) * (others + 1) for shape in range(1, others + 1))
            return (1,) + (0,) * others, book_of_table((1,) + (0,) * others, table)
        three = (1, 1, 1), book_of_table((1, 1, 1), monoids(3)[0])
        for one, other, most in ((many(29), many(2), 60), (many(7), many(7), 60), (three, ((0, 1), MAYBE), 60),
                                 (((3,), only_book(3)), ((1,), only_book(1)), 12), (((2,), only_book(2)), ((2,), only_book(2)), 12),
                                 (((1, 1), PARITY), ((2,), only_book(2)), 5000), (((2,), only_book(2)), ((1, 1), PARITY), 5000),
                                 (((0, 1), MAYBE), ((3,), only_book(3)), 12), (many(3), ((2,), only_book(2)), 60)):
            self.quick(self.refused, TooGreat, {"most": most}, product_book, *one, *other)
        for one, other in ((three, ((1,), only_book(1))), (((1, 1), PARITY), ((0, 1), MAYBE)), (((2,), only_book(2)), ((1,), only_book(1))),
                           (((0,), (0, ((0, ()),))), many(29)), (((1, 1), PARITY), ((1,), only_book(1)))):
            found = self.quick(product_book, *one, *other)
            self.assertEqual(need_book(multiplied(one[0], other[0]), found), found)

    def test_the_product_by_itself_with_one_place_is_the_same_book(self):
        for holder in [(0, 1), (1, 1), (2,)]:
            for book in books(holder):
                # With (0,) beside it: each shape as it is, and a half without places.
                self.assertEqual(product_book(holder, book, (0,), (0, ((0, ()),))), book)
                self.assertEqual(product_book((0,), (0, ((0, ()),)), holder, book), book)
        self.assertEqual(still((0,)), ((0, ()),))


if __name__ == "__main__":
    unittest.main()
