"""10.2: the least price, and readers for it."""

import itertools
import random
import unittest

from lookspoil.books import kept
from lookspoil.errors import NoPrices, TooLarge
from lookspoil.judging import table
from lookspoil.kinds import Kind
from lookspoil.programs import Program, has_puts
from lookspoil.quick import cheapest_reader, least_price
from lookspoil.readers import bears, most_looks, reader
from lookspoil.stores import Book, Store
from tests.samples import CORE, FOG, GEARS, LATE, LONE, MIST, STEEP, STILL, WHEEL, odd_things
from tests.worlds import (
    BOTH, BUSY_BOOK, bears_found, drifted, kept_books, layouts_coming, looked, mixed_cases, ring_kind, uncut_from)

PRICES = (0, 0, 1, 1, 2, 3, 7, 1000)
NEAR = (1, 2, 3, 4, 5, 6, 7, 9, 10)
THREE = Book(Store((CORE, STILL, STILL)), ((1, 0, 0), (0, 1, 0), (1, 1, 1)))


def price_found(book, prices):
    """What least_price must tell: over all sets of worlds, the price is made less until nothing changes."""
    begin = drifted(book.store, [
        (name, layout) for name in range(len(book.layouts)) for layout in layouts_coming(book, name)])
    graph, waiting = {}, [begin]
    while waiting:
        worlds = waiting.pop()
        if worlds not in graph:
            graph[worlds] = []
            if len({name for name, _ in worlds}) > 1:
                graph[worlds] = [(prices[cell], looked(book.store, worlds, cell)) for cell in range(len(prices))]
            waiting += [left for _, behind in graph[worlds] for left in behind]
    best = {worlds: 0 for worlds in graph if not graph[worlds]}
    while True:
        before = dict(best)
        for worlds in graph:
            for price, behind in graph[worlds]:
                if all(left in best for left in behind):
                    least = price + max(best[left] for left in behind)
                    best[worlds] = min(best.get(worlds, least), least)
        if before == best:
            return best.get(begin)


def greatest_price(program, book, prices):
    """The greatest price of the looks in a trace without cuts, from all layouts that come from a name's."""
    graph = uncut_from(program, [
        layout for name in range(len(book.layouts)) for layout in layouts_coming(book, name)])
    spent = {here: 0 for here in graph}
    changed = True
    while changed:
        changed = False
        for here in sorted(graph):
            for move, goal in graph[here]:
                now = spent[here] + (prices[program.steps[here[0]][1]] if move[0] == "step" else 0)
                if now > spent[goal]:
                    spent[goal], changed = now, True
    return max(spent.values())


def small_cases(many, seed, every):
    """Small kept books with prices."""
    chance = random.Random(seed)
    books = kept_books(many, seed, cells=3, names=4, size=20)
    return [(book, tuple(chance.choice(every) for _ in book.store.kinds)) for book in books]


CASES = small_cases(150, "quick", PRICES) + small_cases(100, "near", NEAR)


class LeastPrice(unittest.TestCase):
    def test_examples(self):
        still = Book(Store((STILL, STILL)), ((0, 1), (1, 0)))
        for prices, told in [((3, 5), 3), ((5, 3), 3), ((0, 5), 0), ((1000, 1000), 1000), ((0, 0), 0), ((1, 1), 1)]:
            self.assertEqual(least_price(still, prices), told)
        self.assertEqual(least_price(THREE, (0, 1, 2)), 3)
        self.assertEqual(least_price(THREE, (0, 1000, 1000)), 2000)
        self.assertIsNone(least_price(BOTH, (1,)))

    def test_against_a_search(self):
        found = set()
        for book, prices in CASES:
            told = least_price(book, prices)
            self.assertEqual(told, price_found(book, prices), (book.layouts, prices))
            found.add(told)
        self.assertTrue({0, 1, 2, 3} <= found and max(found) >= 1000, found)
        self.assertGreater(len(found), 10)

    def test_one_name_costs_nothing(self):
        for prices in [(0, 0), (5, 1000)]:
            self.assertEqual(least_price(Book(Store((CORE, MIST)), ((1, 2),)), prices), 0)

    def test_looks_in_a_row(self):
        # 0 and 7 answer 0 alike six times; strangers may have looked, so that the worst of all counts.
        steep = Book(Store((STEEP,)), ((0,), (7,)))
        self.assertEqual(least_price(steep, (1,)), price_found(steep, (1,)))
        self.assertEqual(least_price(steep, (9,)), 9 * least_price(steep, (1,)))
        self.assertEqual(least_price(steep, (1000,)), 1000 * least_price(steep, (1,)))
        both = Book(Store((STEEP, STILL)), ((0, 0), (7, 1)))
        looks = least_price(steep, (1,))
        for price in (1, 3, looks - 1, looks, looks + 1, 1000):
            self.assertEqual(least_price(both, (1, price)), min(looks, price))
            self.assertEqual(least_price(both, (0, price)), 0)

    def test_the_cell_is_chosen_by_the_answers_ahead(self):
        # Cell 0 tells which of the cells 1 and 2 is worth a look.
        book = Book(Store((STILL, STILL, STILL)), ((0, 0, 0), (0, 1, 0), (1, 0, 0), (1, 0, 1)))
        self.assertEqual(least_price(book, (1, 10, 10)), 11)
        self.assertEqual(least_price(book, (1, 10, 20)), 21)
        self.assertEqual(least_price(book, (100, 10, 10)), 110)

    def test_a_look_that_is_cheap_ahead_may_be_dear_in_the_end(self):
        book = Book(Store((LATE, FOG)), ((1, 2), (5, 5), (4, 2), (2, 3)))
        self.assertEqual(least_price(book, (2, 4)), 10)
        self.assertEqual(price_found(book, (2, 4)), 10)
        turning = Kind((((0, 1),), ((1, 2),), ((1, 0),), ((0, 3),), ((0, 4),)), ((),) * 5, ())
        other = Book(Store((turning, FOG)), ((0, 3), (0, 0), (3, 4)))
        self.assertEqual(least_price(other, (1, 1)), 3)
        self.assertEqual(price_found(other, (1, 1)), 3)

    def test_answers_that_put_one_of_many_names_out(self):
        # Each two of three names are alike in some cell, and no look tells all of them apart.
        parts = [Kind((((0, 0), (1, 0)), ((1, 1), (2, 1)), ((0, 2), (2, 2))), ((),) * 3, ())]
        store = Store((parts[0], STILL, STILL))
        book = Book(store, ((0, 0, 0), (1, 0, 1), (2, 1, 0)))
        for prices in [(1, 1, 1), (1, 5, 5), (0, 5, 9), (3, 5, 4), (1000, 1, 1)]:
            self.assertEqual(least_price(book, prices), price_found(book, prices))
        self.assertEqual(least_price(book, (0, 5, 9)), 9)

    def test_drifts_and_more_outcomes(self):
        chance = random.Random("noisy prices")
        seen = 0
        while seen < 25:
            store = Store(tuple(ring_kind(chance, (1, 2), 4, 0.6, 0.4) for _ in range(2)))
            book = Book(store, tuple((chance.randrange(3), chance.randrange(3)) for _ in range(3)))
            if kept(book):
                seen += 1
                prices = (chance.choice(PRICES), chance.choice(PRICES))
                self.assertEqual(least_price(book, prices), price_found(book, prices))

    def test_none_exactly_where_the_book_is_not_kept(self):
        found = []
        for _, book in mixed_cases(100, "prices"):
            prices = (1,) * len(book.store.kinds)
            found.append(kept(book))
            self.assertEqual(least_price(book, prices) is None, not found[-1])
            self.assertEqual(cheapest_reader(book, prices) is None, not found[-1])
        self.assertTrue(found.count(True) > 20 and found.count(False) > 20)


class CheapestReader(unittest.TestCase):
    def check(self, book, prices):
        made = cheapest_reader(book, prices)
        self.assertIs(type(made), Program)
        self.assertTrue(made.store == book.store)
        self.assertIs(has_puts(made), False)
        self.assertIs(bears(made, book), True)
        self.assertTrue(made == cheapest_reader(book, prices))
        if len(made.steps) <= 400:
            self.assertTrue(made == Program(made.store, made.steps))
        return made

    def test_it_bears_and_costs_no_more(self):
        for book, prices in CASES:
            made = self.check(book, prices)
            self.assertEqual(greatest_price(made, book, prices), least_price(book, prices))
            self.assertTrue(bears_found(made, book))
            self.assertGreaterEqual(greatest_price(reader(book), book, prices), least_price(book, prices))

    def test_one_name(self):
        made = self.check(Book(Store((CORE, MIST)), ((1, 2),)), (1, 1))
        self.assertEqual(made.steps[0], ("tell", 0))

    def test_few_looks(self):
        book = Book(Store((STEEP, STILL)), ((0, 0), (7, 1)))
        self.assertEqual(most_looks(self.check(book, (1, 1))), 1)
        self.assertEqual(self.check(book, (1, 1)).steps[0][:2], ("look", 1))
        self.assertEqual(self.check(book, (1, 1000)).steps[0][:2], ("look", 0))

    def test_two_hundred_layouts(self):
        chance = random.Random("200")
        seen = 0
        while seen < 4:
            sizes = chance.choice([((4, 4), (2, 3), (3, 2)), ((3, 5), (1, 4), (1, 1, 3))])
            store = Store(tuple(ring_kind(chance, rings, 4, 0.2) for rings in sizes))
            book = Book(store, tuple(itertools.product(*[(0, rings[0]) for rings in sizes])))
            if kept(book):
                seen += 1
                for prices in [(1, 1, 1), (0, 1000, 3)]:
                    made = self.check(book, prices)
                    self.assertEqual(greatest_price(made, book, prices), least_price(book, prices))

    def test_more_than_400_places(self):
        made = self.check(BUSY_BOOK, (1, 1, 1))
        self.assertGreater(len(made.steps), 400)
        self.assertIsNotNone(table(made, BUSY_BOOK))
        self.assertEqual(most_looks(made), least_price(BUSY_BOOK, (1, 1, 1)))
        self.assertIs(bears(made, Book(BUSY_BOOK.store, BUSY_BOOK.layouts[::-1])), False)


class Errors(unittest.TestCase):
    def refuse(self, error, book, prices):
        for call in (least_price, cheapest_reader):
            with self.assertRaises(error, msg=repr(prices)[:300]) as caught:
                call(book, prices)
        return caught.exception

    def test_no_prices(self):
        large = Book(Store((GEARS, GEARS, GEARS)), ((0, 0, 0),))
        for prices in [(), (1,), (1, 1), (1, 1, 1, 1), [1, 1, 1], (1, 1, 1001), (-1, 1, 1), (1, -1, 1), (True, 1, 1),
                       (1, 1, False), (1, None, 1), ("1", 1, 1), ((1,), 1, 1), (1, 1, 10 ** 59), None, 1, "111",
                       b"111", {0: 1, 1: 1, 2: 1}, range(3), ((1, 1, 1),)] + odd_things():
            self.refuse(NoPrices, THREE, prices)
            self.refuse(NoPrices, large, prices)
        for thing in odd_things():
            if thing != 10 or type(thing) is not int:
                for prices in [(thing, 1, 1), (1, thing, 1), (1, 1, thing)]:
                    self.refuse(NoPrices, THREE, prices)
                    self.refuse(NoPrices, large, prices)

    def test_bounds_of_prices(self):
        for prices in itertools.product((0, 1000), repeat=3):
            self.assertEqual(least_price(THREE, prices), price_found(THREE, prices))

    def test_no_prices_for_a_book_that_is_not_kept(self):
        self.refuse(NoPrices, BOTH, (1, 1))
        self.refuse(NoPrices, BOTH, (1001,))

    def test_too_large_exactly_above_200(self):
        five = Kind(tuple(((at, at),) for at in range(5)), ((),) * 5, ())
        seven = Kind(tuple(((at, at),) for at in range(7)), ((),) * 7, ())
        six = Kind(tuple(((at, at),) for at in range(6)), ((),) * 6, ())
        for kinds in [(five, six, seven), (GEARS, GEARS, CORE, CORE), (GEARS,) * 5, (six, six, six),
                      (seven, five, six)]:
            for names in (1, 2):
                book = Book(Store(kinds), tuple((at,) * len(kinds) for at in range(names)))
                caught = self.refuse(TooLarge, book, (1,) * len(kinds))
                self.assertEqual(caught.most, 200)
        for kinds in [(five, five, GEARS), (GEARS, five, five, LONE), (WHEEL, GEARS, GEARS)]:
            book = Book(Store(kinds), ((0,) * len(kinds),))
            self.assertEqual(least_price(book, (1,) * len(kinds)), 0)
            self.assertEqual(cheapest_reader(book, (1,) * len(kinds)).steps, (("tell", 0),))
        full = Book(Store((five, five, GEARS)), tuple((at % 5, at // 5, 0) for at in range(12)))
        self.assertEqual(least_price(full, (1, 2, 1)), 3)


if __name__ == "__main__":
    unittest.main()
