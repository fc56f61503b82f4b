"""13.1 to 13.3: greatest books, the ninth fact, covers, alike_in; example e10."""

import itertools
import math
import random
import unittest

from lookspoil.books import denial, kept, keeping
from lookspoil.errors import NoLayout, NotSure, TooLarge
from lookspoil.greatest import alike_in, cover, greatest_book, is_cover, kinds_sure, most_names, names_by_classes
from lookspoil.judging import table
from lookspoil.readers import bears, reader
from lookspoil.stores import Book, Store
from lookspoil.sures import classes, haunted, sure
from tests.samples import (
    CORE, EIGHT, EVEN, FIVE, FOG, GEARS, LATE, LONE, MIST, SEVEN, SLIP, STEEP, STILL, WHEEL, apart_layouts, circle,
    many_kinds, odd_things, some_kinds)
from tests.worlds import THREE, put_kinds, ring_kind


def most_found(apart, left):
    """The greatest number of those left of which each two are apart, by trying all sets."""
    if not left:
        return 0
    first, *rest = left
    joined = [one for one in rest if one in apart[first]]
    with_first = 1 + most_found(apart, joined)
    return with_first if len(joined) == len(rest) else max(with_first, most_found(apart, rest))


def sized(store):
    return math.prod(kind.size for kind in store.kinds)


def small_stores(many, seed, size, kinds):
    """Stores with at most size layouts."""
    chance = random.Random(seed)
    made = []
    while len(made) < many:
        store = Store(tuple(chance.choice(kinds) for _ in range(chance.randint(1, 5))))
        if sized(store) <= size:
            made.append(store)
    return made


def sure_kinds():
    chance = random.Random("sure")
    made = [STILL, CORE, WHEEL, LATE, LONE, STEEP, GEARS, EVEN, THREE]
    for rings in [(1, 1), (2, 1), (1, 1, 1), (2, 2), (3, 1), (1, 2, 1)]:
        made += [ring_kind(chance, rings, 2), ring_kind(chance, rings, 4)]
    return made + some_kinds(20, "sure stores", sizes=(1, 2, 3, 4), answers=2, drifts=0, outcomes=1)


def mixed_kinds():
    return some_kinds(20, "mixed", sizes=(1, 2, 3, 4), answers=6, drifts=1) + put_kinds(10, "mixed") + [
        MIST, SLIP, FOG, FIVE, circle(4), circle(6), haunted(WHEEL), haunted(CORE), STILL, THREE]


SURE = small_stores(60, "sure", 64, sure_kinds())
MIXED = small_stores(80, "mixed", 18, mixed_kinds() + sure_kinds())
LARGE = [Store((EIGHT, EIGHT)), Store((EVEN, EVEN)), Store((STILL,) * 5), Store((SEVEN, SEVEN)),
         Store((FIVE, FIVE, STILL)),
         Store((STILL, SEVEN, WHEEL)), Store((circle(4),) * 3), Store((GEARS, STEEP)), Store((FOG, FIVE, STILL))]
TOO_LARGE = [Store((EVEN, EVEN, STILL)), Store((FIVE, FIVE, THREE)), Store((THREE, FIVE, FIVE)), Store((EIGHT,) * 5),
             Store((FIVE, THREE, circle(4), STILL)), Store((circle(6), FIVE, THREE)), Store((STILL,) * 4 + (FIVE,))]


class MostNames(unittest.TestCase):
    def check_book(self, store):
        book = greatest_book(store)
        self.assertIs(type(book), Book)
        self.assertTrue(book.store == store)
        self.assertIs(type(book.layouts), tuple)
        self.assertEqual(len(book.layouts), most_names(store))
        apart = apart_layouts(store)
        for one, two in itertools.combinations(book.layouts, 2):
            self.assertIn(two, apart[one])
        self.assertIs(kept(book), True)
        self.assertTrue(book == greatest_book(store))
        return book

    def test_e10(self):
        self.assertEqual(most_names(Store((WHEEL, STILL))), 2)

    def test_against_a_search(self):
        found = set()
        for store in MIXED + SURE:
            if sized(store) <= 18:
                apart = apart_layouts(store)
                found.add(most_found(apart, list(apart)))
                self.assertEqual(most_names(store), most_found(apart, list(apart)))
        self.assertTrue({1, 2, 3, 4, 6} <= found, found)

    def test_books(self):
        for store in MIXED + SURE + LARGE:
            self.check_book(store)

    def test_two_cells_may_tell_more_than_each_alone(self):
        self.assertEqual(most_names(Store((FIVE,))), 2)
        self.assertEqual(most_names(Store((FIVE, FIVE))), 5)
        self.assertEqual(most_names(Store((FIVE, FIVE, STILL))), 10)
        self.assertEqual(most_names(Store((SEVEN,))), 3)
        self.assertEqual(most_names(Store((SEVEN, SEVEN))), 10)
        self.assertEqual(most_names(Store((FIVE, SEVEN))), 7)
        self.assertEqual(most_names(Store((EIGHT, EIGHT))), 16)

    def test_up_to_64_names(self):
        self.assertEqual(most_names(Store((EVEN, EVEN))), 64)
        book = self.check_book(Store((EVEN, EVEN)))
        self.assertEqual(sorted(book.layouts), list(itertools.product(range(8), repeat=2)))
        self.assertEqual(most_names(Store((STILL,) * 5)), 32)
        self.assertEqual(most_names(Store((LONE,))), 1)

    def test_a_book_of_more_than_12_names_may_be_passed_on(self):
        book = greatest_book(Store((STILL,) * 4))
        self.assertEqual(len(book.layouts), 16)
        self.assertIs(kept(book), True)
        self.assertEqual(len(keeping(book)), 120)
        self.assertIsNone(denial(book))
        made = reader(book)
        self.assertIs(bears(made, book), True)
        self.assertEqual(sorted({step[1] for step in made.steps if step[0] == "tell"}), list(range(16)))
        self.assertEqual(len(table(made, book)), 16)

    def test_the_ninth_fact(self):
        found = set()
        for store in SURE:
            self.assertEqual(most_names(store), names_by_classes(store))
            found.add(names_by_classes(store))
        self.assertTrue({1, 2, 3, 4, 6, 8} <= found, found)

    def test_no_store_of_sure_kinds_is_needed(self):
        self.assertEqual(most_names(Store((MIST,))), most_found(apart_layouts(Store((MIST,))), [(0,), (1,), (2,)]))

    def test_too_large_exactly_above_64(self):
        for store in TOO_LARGE:
            for call in (most_names, greatest_book, cover):
                with self.assertRaises(TooLarge) as caught:
                    call(store)
                self.assertEqual(caught.exception.most, 64)
        for store in LARGE:
            most_names(store)
        self.assertEqual({sized(store) for store in LARGE} >= {64, 32, 49, 50}, True)
        self.assertTrue({72, 75, 80} & {sized(store) for store in TOO_LARGE})
        thirteen = Store((circle(4), circle(4), circle(4)))
        self.assertEqual((sized(thirteen), most_names(thirteen)), (64, 8))
        self.assertEqual(sized(Store((FIVE, FIVE, THREE))), 75)


class Classes(unittest.TestCase):
    def test_kinds_sure(self):
        found = set()
        for store in MIXED + SURE + LARGE + TOO_LARGE:
            told = all(sure(kind) for kind in store.kinds)
            found.add(told)
            self.assertIs(kinds_sure(store), told)
        self.assertEqual(found, {False, True})
        self.assertIs(kinds_sure(Store((CORE, MIST))), False)
        self.assertIs(kinds_sure(Store((SLIP, CORE))), False)
        self.assertIs(kinds_sure(Store((CORE, STILL))), True)
        self.assertIs(kinds_sure(Store((haunted(STILL), CORE))), False)

    def test_names_by_classes(self):
        self.assertEqual(names_by_classes(Store((WHEEL, STILL))), 2)
        self.assertEqual(names_by_classes(Store((THREE, STILL, EVEN, CORE))), 48)
        self.assertEqual(names_by_classes(Store((EVEN,) * 5)), 8 ** 5)
        for store in SURE:
            self.assertEqual(names_by_classes(store), math.prod(len(classes(kind)) for kind in store.kinds))

    def test_not_sure_exactly_where_a_kind_is_not(self):
        found = set()
        for kind in many_kinds():
            for kinds in [(kind,), (STILL, kind), (kind, STILL), (CORE, kind, WHEEL)]:
                found.add(sure(kind))
                if sure(kind):
                    self.assertGreaterEqual(names_by_classes(Store(kinds)), 1)
                else:
                    with self.assertRaises(NotSure):
                        names_by_classes(Store(kinds))
        self.assertEqual(found, {False, True})


class Covers(unittest.TestCase):
    def found(self, store, thing):
        """Whether a list of lists of layouts is a cover."""
        apart = apart_layouts(store)
        every = [layout for lot in thing for layout in lot]
        return sorted(every) == sorted(apart) and not any(
            two in apart[one] for lot in thing for one, two in itertools.combinations(lot, 2))

    def test_covers(self):
        for store in MIXED + SURE + LARGE:
            made = cover(store)
            self.assertIs(type(made), list)
            self.assertTrue(self.found(store, made))
            self.assertIs(is_cover(store, made), True)
            self.assertLessEqual(most_names(store), len(made))
            if kinds_sure(store):
                self.assertEqual(len(made), names_by_classes(store))
                self.assertTrue(all(len(lot) > 0 for lot in made))

    def test_right_ones_of_other_forms(self):
        chance = random.Random("covers")
        for store in MIXED[:30] + SURE[:20]:
            made = cover(store)
            self.assertIs(is_cover(store, tuple(tuple(lot) for lot in made)), True)
            self.assertIs(is_cover(store, [tuple(lot) for lot in made]), True)
            self.assertIs(is_cover(store, tuple(made)), True)
            self.assertIs(is_cover(store, [[], *made, (), []]), True)
            self.assertIs(is_cover(store, made[::-1]), True)
            self.assertIs(is_cover(store, [lot[::-1] for lot in made]), True)
            mixed = [chance.sample(lot, len(lot)) for lot in made]
            self.assertIs(is_cover(store, chance.sample(mixed, len(mixed))), True)
            self.assertIs(is_cover(store, [[layout] for lot in made for layout in lot]), True)

    def test_by_chance_against_a_search(self):
        chance = random.Random("lots")
        found = []
        for store in [store for store in MIXED if sized(store) <= 8] * 6:
            layouts = list(apart_layouts(store))
            thing = [[] for _ in range(chance.randint(1, len(layouts)))]
            for layout in layouts:
                chance.choice(thing).append(layout)
            found.append(self.found(store, thing))
            self.assertIs(is_cover(store, thing), found[-1])
        self.assertTrue(found.count(True) > 20 and found.count(False) > 100, found.count(True))

    def test_alike_is_no_chain(self):
        # Beside one another in the circle alike, but the first and the last of three are apart.
        store = Store((FIVE,))
        self.assertIs(is_cover(store, [[(0,), (1,)], [(2,), (3,)], [(4,)]]), True)
        self.assertIs(is_cover(store, [[(0,), (1,), (2,)], [(3,), (4,)]]), False)
        self.assertIs(is_cover(store, [[(4,), (0,)], [(2,), (1,)], [(3,)]]), True)
        self.assertIs(is_cover(store, [[(0,), (2,)], [(1,)], [(3,)], [(4,)]]), False)

    def test_wrong_ones(self):
        store = Store((CORE, STILL))
        right = [[(0, 0), (1, 0)], [(0, 1), (1, 1)]]
        self.assertIs(is_cover(store, right), True)
        wrong = [
            [[(0, 0), (1, 0)], [(0, 1)]], [[(0, 0), (1, 0)]], right + [[(0, 0)]], right + right, [right[0], right[0]],
            [[(0, 0), (1, 0), (1, 0)], [(0, 1), (1, 1)]], [[(0, 0), (0, 1)], [(1, 0), (1, 1)]],
            [[(0, 0), (1, 1)], [(0, 1), (1, 0)]], [[(0, 0), (1, 0), (0, 1), (1, 1)]], [], [[]], (), ((),),
            [[[0, 0], (1, 0)], [(0, 1), (1, 1)]], [[(0, 0), (1, 0)], [(0, 1), (1, 2)]],
            [[(0, 0), (1, 0)], [(0, 1), (1,)]],
            [[(0, 0), (1, 0)], [(0, 1), (1, 1, 0)]], [[(0, 0), (True, 0)], [(0, 1), (1, 1)]],
            [[(0, 0), (1, 0)], [(0, 1), (1, -1)]], [[(0, 0), (1, 0)], [(0, 1), (1, "1")]],
            [{(0, 0): 0, (1, 0): 0}, [(0, 1), (1, 1)]], {0: right[0], 1: right[1]}, [right], [right[0], None],
            right + [None], right + [0], right + [(0, 0)], right + [""], right + [[()]], right + [[[]]], right + [{}],
            iter(right), [iter(lot) for lot in right], "right", b"right",
            [[(0, 0), (1, 0)], [(0, 1), (1, 10 ** 59)]]]
        for thing in wrong:
            self.assertIs(is_cover(store, thing), False, repr(thing)[:200])

    def test_any_object(self):
        for store in [Store((CORE, STILL)), Store((EVEN, EVEN)), Store((STILL,))]:
            for thing in odd_things():
                for other in [thing, [thing], (thing, thing), [[thing]], [[(0,), thing]]]:
                    self.assertIs(is_cover(store, other), False, repr(other)[:200])
                empty = isinstance(thing, (list, tuple)) and len(thing) == 0
                self.assertIs(is_cover(Store((LONE,)), [((0,),), thing]), empty)
        self.assertIs(is_cover(Store((LONE,)), [[(0,)]]), True)
        self.assertIs(is_cover(Store((LONE,)), [[(0,)]] + [[]] * 4000), True)
        self.assertIs(is_cover(Store((LONE,)), [[(0,)] * 4000]), False)

    def test_too_large_whatever_is_judged(self):
        for store in TOO_LARGE:
            layouts = list(itertools.product(*[range(kind.size) for kind in store.kinds]))
            for thing in [[[layout] for layout in layouts][:100], [], None, 7] + odd_things():
                with self.assertRaises(TooLarge) as caught:
                    is_cover(store, thing)
                self.assertEqual(caught.exception.most, 64)
        for store in LARGE:
            self.assertIs(is_cover(store, None), False)

    def test_what_is_returned_is_new(self):
        for store in SURE[:10]:
            made = cover(store)
            kept_copy = [list(lot) for lot in made]
            for lot in made:
                lot.clear()
            made.append(None)
            self.assertEqual(cover(store), kept_copy)
        lots = cover(Store((EVEN, STILL)))
        self.assertEqual(len({id(lot) for lot in lots}), len(lots))

    def test_what_is_judged_stays(self):
        store = Store((CORE, STILL))
        thing = [[(0, 0), (1, 0)], [], [(0, 1), (1, 1)]]
        self.assertIs(is_cover(store, thing), True)
        self.assertEqual(thing, [[(0, 0), (1, 0)], [], [(0, 1), (1, 1)]])


class AlikeIn(unittest.TestCase):
    def test_against_a_search(self):
        found = []
        for store in MIXED:
            apart = apart_layouts(store)
            for one, two in itertools.product(apart, repeat=2):
                found.append(two not in apart[one])
                self.assertIs(alike_in(store, one, two), found[-1])
        self.assertTrue(found.count(True) > 500 and found.count(False) > 500)

    def test_large_stores(self):
        store = Store((EVEN, EVEN, EVEN, CORE, EVEN))
        self.assertIs(alike_in(store, (7, 7, 7, 0, 7), (7, 7, 7, 1, 7)), True)
        self.assertIs(alike_in(store, (7, 7, 7, 0, 7), (7, 7, 7, 1, 6)), False)

    def test_no_layout_for_either(self):
        store = Store((CORE, STILL))
        wrong = [(), (0,), (0, 0, 0), (2, 0), (0, 2), (-1, 0), (0, -1), [0, 0], (True, 0), (0, False), ("0", 0), 0,
                 None,
                 {0: 0, 1: 0}, "00", b"00", range(2), ((0, 0),), (0, 10 ** 59), (0, None), ((0,), 0)]
        for thing in wrong + [thing for thing in odd_things() if thing != (0, 0) or type(thing) is list]:
            for one, two in [(thing, (0, 0)), ((0, 0), thing), (thing, thing)]:
                with self.assertRaises(NoLayout, msg=repr(thing)[:200]):
                    alike_in(store, one, two)


if __name__ == "__main__":
    unittest.main()
