"""16.1: spare cells, and the twelfth fact."""

import itertools
import random
import unittest

from lookspoil.books import apart_cells, kept
from lookspoil.errors import NoMenu, TooMany
from lookspoil.greatest import greatest_book
from lookspoil.kinds import Kind
from lookspoil.readers import bears, reader
from lookspoil.spares import spare_cells
from lookspoil.stores import Book, Store
from tests.samples import (
    CORE, EIGHT, EVEN, FIVE, FOG, LATE, LONE, MIST, SEVEN, SLIP, STILL, WHEEL, apart_pairs, circle, odd_things,
    some_kinds)
from tests.worlds import BOTH, THREE, chance_layout, kept_books, ring_kind

# Nothing is apart in this one.
DULL = Kind((((0, 0),), ((0, 1),)), ((), ()), ())


def alike_names(book):
    """The pairs of names that are alike in all cells, by a search."""
    kinds = [apart_pairs(kind) for kind in book.store.kinds]
    return [
        (one, two) for one, two in itertools.combinations(range(len(book.layouts)), 2)
        if not any(pair in cell for pair, cell in zip(zip(book.layouts[one], book.layouts[two]), kinds))]


def can_be_spared(kinds, names, pairs, chosen=()):
    """Whether standings of these kinds can be chosen for each name that tell the pairs of names apart."""
    if len(chosen) == names:
        return True
    told = [apart_pairs(kind) for kind in kinds]
    for standings in itertools.product(*[range(kind.size) for kind in kinds]):
        if all(any(pair in cell for pair, cell in zip(zip(chosen[one], standings), told))
               for one, two in pairs if two == len(chosen)):
            if can_be_spared(kinds, names, pairs, (*chosen, standings)):
                return True
    return False


def found(book, menu):
    """The price and the numbers that spare_cells must tell, or None."""
    pairs = alike_names(book)
    orders = [()] + [(one,) for one in range(len(menu))]
    orders += [(one, two) for one in range(len(menu)) for two in range(one, len(menu))]
    right = [
        (sum(menu[number][1] for number in numbers), numbers) for numbers in orders
        if can_be_spared([menu[number][0] for number in numbers], len(book.layouts), pairs)]
    return min(right, default=None)


def alike_book(many, kinds=(STILL,)):
    """A book of so many names that have one layout."""
    return Book(Store(kinds), ((0,) * len(kinds),) * many)


def some_cases(many, seed):
    chance = random.Random(seed)
    kinds = [CORE, STILL, STILL, WHEEL, MIST, LONE, THREE, SLIP, circle(4), DULL]
    kinds += some_kinds(15, seed, sizes=(2, 3), answers=4, drifts=1)
    kinds += [ring_kind(chance, rings, 3) for rings in [(1, 1), (2, 1), (1, 1, 1)]]
    made = []
    for _ in range(many):
        store = Store(tuple(chance.choice(kinds) for _ in range(chance.randint(1, 3))))
        names = chance.choice((1, 2, 3, 4, 5))
        book = Book(store, tuple(chance_layout(chance, store) for _ in range(names)))
        prices = chance.choice([(1, 2, 3), (5,), (1, 1000), (2, 3, 4, 5, 6)])
        if chance.random() < 0.3:
            book = alike_book(names, store.kinds)
        kinds_there = chance.choice((kinds, kinds, (STILL, THREE, circle(4))))
        menu = tuple((chance.choice(kinds_there), chance.choice(prices)) for _ in range(chance.randint(1, 4)))
        made.append((book, menu))
    return made


class SpareCells(unittest.TestCase):
    def check(self, book, menu):
        told = spare_cells(book, menu)
        if told is None:
            return None
        self.assertIs(type(told), tuple)
        price, numbers, other = told
        self.assertIs(type(numbers), tuple)
        self.assertEqual(list(numbers), sorted(numbers))
        self.assertEqual(price, sum(menu[number][1] for number in numbers))
        self.assertIs(type(other), Book)
        cells = len(book.store.kinds)
        self.assertTrue(other.store == Store(book.store.kinds + tuple(menu[number][0] for number in numbers)))
        self.assertEqual(tuple(layout[:cells] for layout in other.layouts), book.layouts)
        self.assertTrue(Book(other.store, other.layouts[:12]).layouts == other.layouts[:12])
        self.assertIs(kept(other), True)
        self.assertEqual(alike_names(other), [])
        again = spare_cells(book, menu)
        self.assertTrue(again[:2] == told[:2] and again[2] == other)
        return price, numbers

    def test_examples(self):
        self.assertEqual(self.check(BOTH, ((STILL, 5),)), (5, (0,)))
        self.assertEqual(self.check(BOTH, ((STILL, 5), (THREE, 4))), (4, (1,)))
        self.assertIsNone(spare_cells(BOTH, ((CORE, 1), (WHEEL, 1))))
        three = alike_book(3)
        self.assertEqual(self.check(three, ((STILL, 1),)), (2, (0, 0)))
        self.assertEqual(self.check(three, ((STILL, 1), (THREE, 3))), (2, (0, 0)))
        self.assertEqual(self.check(three, ((STILL, 1), (THREE, 2))), (2, (0, 0)))
        self.assertEqual(self.check(three, ((THREE, 2), (STILL, 1))), (2, (0,)))
        self.assertEqual(self.check(three, ((STILL, 2), (THREE, 3))), (3, (1,)))

    def test_least_numbers_for_the_least_price(self):
        self.assertEqual(self.check(BOTH, ((CORE, 1), (STILL, 7), (THREE, 7), (STILL, 7))), (7, (1,)))
        self.assertEqual(self.check(alike_book(4), ((STILL, 3), (STILL, 2), (STILL, 4), (STILL, 2))), (4, (1, 1)))
        self.assertEqual(self.check(alike_book(4), ((STILL, 3), (STILL, 3))), (6, (0, 0)))
        # What comes first may be one that costs as much as two later ones.
        self.assertEqual(self.check(alike_book(3), ((STILL, 2), (THREE, 4))), (4, (0, 0)))
        self.assertEqual(self.check(alike_book(3), ((THREE, 4), (STILL, 2))), (4, (0,)))
        self.assertEqual(self.check(alike_book(5), ((STILL, 2), (THREE, 2))), (4, (0, 1)))
        self.assertEqual(self.check(alike_book(5), ((THREE, 2), (STILL, 2))), (4, (0, 0)))

    def test_a_kept_book_needs_none(self):
        for book in kept_books(30, "spared"):
            if len(book.store.kinds) <= 3:
                price, numbers, other = spare_cells(book, ((STILL, 1), (DULL, 1)))
                self.assertEqual((price, numbers), (0, ()))
                self.assertTrue(other == book)
        self.assertEqual(spare_cells(alike_book(1, (CORE, MIST)), ((DULL, 1),))[:2], (0, ()))

    def test_none_where_there_is_none(self):
        self.assertIsNone(spare_cells(alike_book(2), ((CORE, 1),)))
        self.assertIsNone(spare_cells(alike_book(5), ((STILL, 1),)))
        self.assertIsNone(spare_cells(alike_book(10), ((THREE, 1), (STILL, 1))))
        self.assertEqual(self.check(alike_book(9), ((THREE, 1), (STILL, 1))), (2, (0, 0)))
        self.assertEqual(self.check(alike_book(6), ((THREE, 1), (STILL, 1))), (2, (0, 0)))
        self.assertEqual(self.check(alike_book(6), ((THREE, 9), (STILL, 1))), (10, (0, 1)))

    def test_against_a_search(self):
        seen = set()
        for book, menu in some_cases(300, "spares"):
            told = found(book, menu)
            self.assertEqual(self.check(book, menu), told, (book.layouts, menu))
            seen.add(None if told is None else (len(told[1]), len(set(told[1]))))
        self.assertEqual(seen, {None, (0, 0), (1, 1), (2, 1), (2, 2)})

    def test_two_cells_may_tell_more_than_each_alone(self):
        # Each one alone tells two names apart; both together five.
        self.assertEqual(self.check(alike_book(2), ((FIVE, 3),)), (3, (0,)))
        self.assertEqual(self.check(alike_book(5), ((FIVE, 3),)), (6, (0, 0)))
        self.assertIsNone(spare_cells(alike_book(6), ((FIVE, 3),)))
        self.assertEqual(self.check(alike_book(10), ((SEVEN, 1),)), (2, (0, 0)))
        self.assertIsNone(spare_cells(alike_book(11), ((SEVEN, 1),)))
        self.assertEqual(self.check(alike_book(12), ((SEVEN, 1), (EIGHT, 1))), (2, (0, 1)))

    def test_twelve_names(self):
        four = Kind(tuple(((at, at),) for at in range(4)), ((),) * 4, ())
        self.assertEqual(self.check(alike_book(12), ((THREE, 2), (four, 5))), (7, (0, 1)))
        self.assertEqual(self.check(alike_book(12), ((EVEN, 1000),)), (2000, (0, 0)))
        self.assertIsNone(spare_cells(alike_book(12), ((THREE, 2), (STILL, 5), (CORE, 1), (DULL, 1))))
        # Only those names need be told apart that are alike: here never more than four of them.
        groups = Book(Store((THREE, LATE, STILL)), tuple((at % 3, 0, 0) for at in range(12)))
        self.assertEqual(self.check(groups, ((STILL, 2), (four, 5))), (4, (0, 0)))
        self.assertEqual(self.check(groups, ((STILL, 3), (four, 5))), (5, (1,)))
        self.assertIsNone(spare_cells(Book(groups.store, ((0, 0, 0),) * 5 + groups.layouts[:7]), ((STILL, 2),)))

    def test_names_that_are_alike_in_a_circle(self):
        # Names beside one another in a circle of five are alike: three lots of names are needed, not two.
        book = Book(Store((FIVE,)), tuple((at,) for at in range(5)))
        self.assertEqual(alike_names(book), [(0, 1), (0, 4), (1, 2), (2, 3), (3, 4)])
        self.assertEqual(self.check(book, ((STILL, 1), (THREE, 5))), (2, (0, 0)))
        self.assertEqual(self.check(book, ((STILL, 3), (THREE, 5))), (5, (1,)))
        self.assertEqual(self.check(Book(Store((EIGHT,)), tuple((at,) for at in range(8))), ((STILL, 1),)), (1, (0,)))
        five = Book(Store((FIVE, FIVE)), tuple((at, at * 2 % 5) for at in range(5)))
        self.assertEqual(self.check(five, ((STILL, 1),)), (0, ()))

    def test_twelve_names_in_a_circle_and_beside_it(self):
        # Seven names are alike to all others, five to those beside them in a circle: ten lots of names are needed.
        hub = Kind(circle(5).looks + (((0, 5), (2, 5), (4, 5)),), ((),) * 6, ())
        book = Book(Store((hub,)), tuple((at,) for at in range(5)) + ((5,),) * 7)
        self.assertEqual(len(alike_names(book)), 5 + 35 + 21)
        four = Kind(tuple(((at, at),) for at in range(4)), ((),) * 4, ())
        self.assertIsNone(spare_cells(book, ((THREE, 1), (STILL, 1))))
        self.assertEqual(self.check(book, ((THREE, 2), (four, 5), (EVEN, 9))), (7, (0, 1)))
        self.assertEqual(self.check(Book(book.store, book.layouts[:11]), ((THREE, 2), (four, 5))), (4, (0, 0)))

    def test_names_some_of_which_are_alike(self):
        # Some names are alike to all others, some only to few, so that they can have one standing.
        store = Store((circle(6), circle(5)))
        for seed in range(40):
            chance = random.Random(seed)
            book = Book(store, tuple(chance_layout(chance, store) for _ in range(chance.randint(5, 8))))
            menu = ((chance.choice((STILL, circle(5), circle(4))), 3), (chance.choice((THREE, DULL, FOG)), 4))
            self.assertEqual(self.check(book, menu), found(book, menu), seed)

    def test_the_twelfth_fact(self):
        chance = random.Random("twelfth")
        seen = []
        for book, menu in some_cases(150, "twelfth"):
            kind = menu[0][0]
            standings = [chance.randrange(kind.size) for _ in book.layouts]
            more = Book(Store(book.store.kinds + (kind,)), tuple(
                layout + (at,) for layout, at in zip(book.layouts, standings)))
            right = all((standings[one], standings[two]) in apart_pairs(kind) for one, two in alike_names(book))
            seen.append(right)
            self.assertIs(kept(more), right)
        self.assertTrue(seen.count(True) > 20 and seen.count(False) > 20)

    def test_the_book_may_be_passed_on(self):
        _, _, other = spare_cells(alike_book(4), ((STILL, 1),))
        self.assertIs(bears(reader(other), other), True)
        self.assertEqual(apart_cells(other, 0, 1) + apart_cells(other, 2, 3) != [], True)
        with self.assertRaises(TooMany):
            spare_cells(spare_cells(alike_book(4, (STILL, STILL)), ((STILL, 1),))[2], ((STILL, 1),))

    def test_a_book_of_more_than_twelve_names(self):
        book = greatest_book(Store((EVEN, STILL)))
        price, numbers, other = spare_cells(book, ((STILL, 1),))
        self.assertEqual((price, numbers, len(other.layouts)), (0, (), 16))
        self.assertTrue(other == book)

    def test_no_menu(self):
        large = alike_book(2, (STILL,) * 4)
        offer = (STILL, 1)
        wrong = [
            (), [], [offer], (offer,) * 5, offer, (offer, None), ((STILL, 0),), ((STILL, 1001),), ((STILL, -1),),
            ((STILL, True),), ((STILL, "1"),), ((STILL, None),), ((STILL,),), ((STILL, 1, 1),), ([STILL, 1],),
            ((1, STILL),), ((None, 1),), ((Kind, 1),), ((Store((STILL,)), 1),), ((BOTH, 1),), (STILL,), STILL, None, 1,
            "menu", b"menu", {0: offer}, {STILL.looks: 1}, ((STILL, 10 ** 59),), ((STILL, (1,)),), (offer, (STILL, 0)),
            (offer, offer, offer, [STILL, 1]), iter((offer,)), ((STILL.looks, 1),)]
        odd = [thing for thing in odd_things()]
        wrong += odd + [(thing,) for thing in odd] + [(offer, thing) for thing in odd]
        wrong += [((thing, 1),) for thing in odd if not isinstance(thing, Kind)]
        wrong += [((STILL, thing),) for thing in odd if not (type(thing) is int and thing == 10)]
        for menu in wrong:
            for book in (BOTH, large, alike_book(1)):
                with self.assertRaises(NoMenu, msg=repr(menu)[:200]):
                    spare_cells(book, menu)

    def test_too_many_exactly_above_three_cells(self):
        for cells in range(1, 6):
            for book in [alike_book(2, (STILL,) * cells), alike_book(1, (STILL,) * cells)]:
                for menu in [((STILL, 1),), ((DULL, 1000),) * 4]:
                    if cells <= 3:
                        spare_cells(book, menu)
                    else:
                        with self.assertRaises(TooMany) as caught:
                            spare_cells(book, menu)
                        self.assertEqual(caught.exception.most, 5)

    def test_bounds_of_prices(self):
        self.assertEqual(self.check(BOTH, ((STILL, 1000),)), (1000, (0,)))
        self.assertEqual(self.check(BOTH, ((STILL, 1),)), (1, (0,)))
        self.assertEqual(self.check(alike_book(3), ((STILL, 1000),) * 4), (2000, (0, 0)))


if __name__ == "__main__":
    unittest.main()
