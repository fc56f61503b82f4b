"""5.1 and 5.2: books that are kept, keepings, denials and the third fact; example e06."""

import copy
import itertools
import random
import unittest

from lookspoil.books import apart_cells, denial, is_denial, is_keeping, keeping, kept
from lookspoil.errors import NoName
from lookspoil.likenesses import is_likeness, likeness
from lookspoil.pairs import heights, is_heights
from lookspoil.stores import Book, Store
from tests.samples import (
    CORE, GEARS, LATE, MIST, SLIP, STEEP, STILL, WHEEL, all_pairs, greatest_looks, many_kinds, odd_things, one_by_one)

EXAMPLE = Book(Store((CORE, STILL)), ((1, 0), (0, 1)))
# Names 0 and 1 are apart in cell 1 alone, 0 and 2 in both still cells, 1 and 2 in cell 2 alone.
THREE = Book(Store((CORE, STILL, STILL)), ((1, 0, 0), (0, 1, 0), (1, 1, 1)))
TWICE = Book(Store((STILL, STILL)), ((0, 1), (1, 1), (0, 1)))
SINGLE = Book(Store((WHEEL,)), ((2,),))
FULL = Book(Store((STILL,) * 4), tuple(itertools.product((0, 1), repeat=4))[:12])
RIGHT = (0, 1, (((), (("look", 0),), (("both", 0, 0),)), ((), (), (("both", 0, 0),))))
ALIKE = Book(Store((CORE, STILL)), ((0, 1), (1, 1)))


def some_books():
    """Books of kinds of all sorts, kept and not."""
    chance = random.Random("books")
    kinds = [kind for kind in many_kinds() if kind.size < 6] + [STEEP, GEARS, LATE, STILL, STILL]
    books = [EXAMPLE, THREE, TWICE, SINGLE, FULL, ALIKE]
    for _ in range(150):
        store = Store(tuple(chance.choice(kinds) for _ in range(chance.randint(1, 5))))
        layouts = [tuple(chance.randrange(kind.size) for kind in store.kinds) for _ in range(chance.randint(1, 4))]
        books.append(Book(store, tuple(layouts)))
    return books


BOOKS = some_books()


def cells_of(book, one, two):
    """The cells in which two layouts are apart, by a search."""
    rows = zip(book.store.kinds, book.layouts[one], book.layouts[two])
    return [cell for cell, (kind, u, v) in enumerate(rows) if greatest_looks(kind, all_pairs(kind, u, v)) is not None]


def names_of(book):
    return list(itertools.combinations(range(len(book.layouts)), 2))


class ApartCells(unittest.TestCase):
    def test_examples(self):
        self.assertEqual(apart_cells(EXAMPLE, 0, 1), [1])
        self.assertEqual(apart_cells(THREE, 0, 1), [1])
        self.assertEqual(apart_cells(THREE, 0, 2), [1, 2])
        self.assertEqual(apart_cells(THREE, 1, 2), [2])
        self.assertEqual(apart_cells(FULL, 0, 11), [0, 2, 3])

    def test_against_a_search_both_ways(self):
        unlike = set()
        for book in BOOKS:
            for one, two in names_of(book):
                found = apart_cells(book, one, two)
                self.assertEqual(found, cells_of(book, one, two))
                self.assertEqual(found, apart_cells(book, two, one))
                self.assertTrue(one_by_one(found))
                unlike.add(len(found))
        self.assertTrue({0, 1, 2, 3} <= unlike, unlike)

    def test_a_name_with_itself_and_one_told_twice(self):
        for book in BOOKS:
            for name in range(len(book.layouts)):
                self.assertEqual(apart_cells(book, name, name), [])
        self.assertEqual(apart_cells(TWICE, 0, 2), [])

    def test_a_new_list_each_time(self):
        apart_cells(EXAMPLE, 0, 1).append(0)
        self.assertEqual(apart_cells(EXAMPLE, 0, 1), [1])

    def test_no_name_for_either(self):
        for thing in [-1, 2, True, False, None, "0", (0,), [0], 10 ** 59] + odd_things():
            for one, two in [(thing, 0), (0, thing), (thing, thing)]:
                with self.assertRaises(NoName):
                    apart_cells(EXAMPLE, one, two)
        with self.assertRaises(NoName):
            apart_cells(SINGLE, 0, 1)


class Kept(unittest.TestCase):
    def test_examples(self):
        for book, told in [(EXAMPLE, True), (THREE, True), (TWICE, False), (SINGLE, True), (FULL, True), (ALIKE, False)]:
            self.assertIs(kept(book), told)

    def test_against_a_search(self):
        found = []
        for book in BOOKS:
            told = all(cells_of(book, one, two) for one, two in names_of(book))
            self.assertIs(kept(book), told)
            found.append(told)
        self.assertTrue(found.count(True) > 30 and found.count(False) > 30)

    def test_only_the_last_two_names_are_alike(self):
        self.assertIs(kept(Book(Store((STILL, STILL)), ((0, 0), (0, 1), (1, 0), (1, 0)))), False)


class Keeping(unittest.TestCase):
    def test_examples(self):
        self.assertEqual(keeping(EXAMPLE), {(0, 1): (1, {(0, 1): 0})})
        self.assertEqual(keeping(SINGLE), {})
        self.assertIsNone(keeping(TWICE))
        self.assertIsNone(keeping(ALIKE))

    def test_just_one_of_keeping_and_denial(self):
        for book in BOOKS:
            self.assertEqual(keeping(book) is None, not kept(book))
            self.assertEqual(denial(book) is None, kept(book))

    def test_what_a_keeping_is(self):
        for book in BOOKS:
            told = keeping(book)
            if told is None:
                continue
            self.assertEqual(set(told), set(names_of(book)))
            for (one, two), paper in told.items():
                self.assertEqual((type(paper), len(paper)), (tuple, 2))
                cell, table = paper
                self.assertIn(cell, cells_of(book, one, two))
                kind, u, v = book.store.kinds[cell], book.layouts[one][cell], book.layouts[two][cell]
                self.assertTrue(is_heights(kind, u, v, table))
            self.assertIs(is_keeping(book, told), True)
            self.assertEqual(keeping(book), told)

    def test_all_is_new_each_time(self):
        book = Book(Store((STILL,)), ((0,), (1,)))
        told = keeping(book)
        told[(0, 1)][1][(0, 1)] = 5
        told[(1, 1)] = None
        self.assertEqual(keeping(book), {(0, 1): (0, {(0, 1): 0})})
        tables = [id(table) for _, table in keeping(FULL).values()]
        self.assertEqual(len(set(tables)), len(names_of(FULL)))


class IsKeeping(unittest.TestCase):
    def judge(self, book, thing, told):
        self.assertIs(is_keeping(book, thing), told, repr(thing)[:300])

    def test_other_right_ones(self):
        for cell in apart_cells(THREE, 0, 2):
            told = {**keeping(THREE), (0, 2): (cell, {(0, 1): 10 ** 58})}
            self.judge(THREE, told, True)
            self.judge(THREE, {pair: told[pair] for pair in reversed(list(told))}, True)
        for book in BOOKS:
            every = [[(pair, cell) for cell in cells_of(book, *pair)] for pair in names_of(book)]
            for chosen in itertools.islice(itertools.product(*every), 5):
                self.judge(book, {
                    pair: (cell, heights(book.store.kinds[cell], *[book.layouts[name][cell] for name in pair]))
                    for pair, cell in chosen}, True)

    def test_a_pair_too_few_or_too_many(self):
        told = keeping(THREE)
        for pair in told:
            self.judge(THREE, {one: told[one] for one in told if one != pair}, False)
            self.judge(THREE, {(one if one != pair else (0, 3)): told[one] for one in told}, False)
            self.judge(THREE, {(one if one != pair else one[::-1]): told[one] for one in told}, False)
        for extra in [(0, 3), (1, 0), (0, 0), 0, None, "", (0, 1, 2)]:
            self.judge(THREE, {**told, extra: told[(0, 1)]}, False)
        self.judge(SINGLE, {}, True)
        self.judge(SINGLE, {(0, 0): (0, {})}, False)
        self.judge(SINGLE, [], False)
        self.judge(EXAMPLE, {}, False)

    def test_wrong_papers(self):
        table = {(0, 1): 0}
        for paper in [(0, table), (2, table), (-1, table), (True, table), (None, table), ("1", table), [1, table],
                      (1,), (1, table, 0), (1, {}), (1, {(1, 0): 0}), (1, {(0, 1): True}), (1, {(0, 1): -1}),
                      (1, [((0, 1), 0)]), (1, None), (1, ((0, 1), 0)), table, 1, None, (), (1, {(0, 0): 0}),
                      (1, {(0, 1): 0, (1, 0): 0}), (table, 1), {1: table}, (10 ** 59, table), ((1,), table)]:
            self.judge(EXAMPLE, {(0, 1): paper}, False)
        self.judge(EXAMPLE, {(0, 1): (1, table)}, True)
        self.judge(EXAMPLE, {(0, 1): (1, {(0, 1): 9})}, True)

    def test_each_pair_is_judged_with_its_own_standings(self):
        # The standings of names 1 and 2 are those of 0 and 1 the other way round.
        book = Book(Store((STILL, STILL)), ((0, 0), (1, 0), (0, 1)))
        told = {(0, 1): (0, {(0, 1): 0}), (0, 2): (1, {(0, 1): 0}), (1, 2): (0, {(1, 0): 0})}
        self.judge(book, told, True)
        self.judge(book, {**told, (1, 2): (0, {(0, 1): 0})}, False)
        self.judge(book, {**told, (1, 2): (1, {(0, 1): 0})}, True)
        self.judge(book, {**told, (0, 2): (0, {(0, 1): 0})}, False)
        self.judge(book, {**told, (0, 1): (1, {(0, 1): 0})}, False)

    def test_books_that_are_not_kept_have_none(self):
        for book in BOOKS:
            if not kept(book):
                self.judge(book, {pair: (0, {}) for pair in names_of(book)}, False)
                self.judge(book, {pair: (0, {one: 0 for one in all_pairs(
                    book.store.kinds[0], *[book.layouts[name][0] for name in pair])}) for pair in names_of(book)}, False)

    def test_other_objects(self):
        for thing in odd_things():
            self.judge(EXAMPLE, thing, False)
            self.judge(SINGLE, thing, thing == {} and type(thing) is dict)
            for paper in [thing, (1, thing), (thing, {(0, 1): 0}), (1, {(0, 1): thing}), {1: thing}]:
                # By their texts: True equals 1, but is no cell and no height.
                right = [repr((1, {(0, 1): height})) for height in (0, 10, 10 ** 59)]
                self.judge(EXAMPLE, {(0, 1): paper}, repr(paper) in right)

    def test_what_is_handed_in_stays(self):
        for thing in [keeping(THREE), {(0, 1): [1, {(0, 1): [0]}]}]:
            before = copy.deepcopy(thing)
            is_keeping(THREE, thing)
            is_keeping(EXAMPLE, thing)
            self.assertEqual(thing, before)


class Denial(unittest.TestCase):
    def test_examples(self):
        for book in [EXAMPLE, THREE, SINGLE, FULL]:
            self.assertIsNone(denial(book))
        one, two, papers = denial(TWICE)
        self.assertEqual((one, two, len(papers)), (0, 2, 2))

    def test_what_a_denial_is(self):
        denied = 0
        for book in BOOKS:
            told = denial(book)
            if told is None:
                continue
            denied += 1
            one, two, papers = told
            self.assertEqual((type(told), type(papers), type(one), type(two)), (tuple, tuple, int, int))
            self.assertTrue(0 <= one < two < len(book.layouts))
            self.assertEqual(cells_of(book, one, two), [])
            self.assertEqual(len(papers), len(book.store.kinds))
            for kind, u, v, paper in zip(book.store.kinds, book.layouts[one], book.layouts[two], papers):
                self.assertTrue(is_likeness(kind, u, v, paper))
            self.assertIs(is_denial(book, told), True)
            self.assertEqual(denial(book), told)
        self.assertGreater(denied, 30)


class IsDenial(unittest.TestCase):
    def judge(self, book, thing, told):
        self.assertIs(is_denial(book, thing), told, repr(thing)[:300])

    def test_right_ones(self):
        self.judge(ALIKE, RIGHT, True)
        self.judge(ALIKE, (0, 1, (RIGHT[2][0], ((("look", 0),), (), (("both", 0, 0),) * 5))), True)
        for book in BOOKS:
            for one, two in names_of(book):
                papers = [likeness(*told) for told in zip(book.store.kinds, book.layouts[one], book.layouts[two])]
                self.judge(book, (one, two, tuple(papers)), not cells_of(book, one, two))

    def test_wrong_names(self):
        papers = RIGHT[2]
        for one, two in [(1, 0), (0, 0), (1, 1), (0, 2), (-1, 0), (-1, 1), (False, 1), (0, True), (False, True),
                         (None, 1), (0, None), ("0", 1), (0, "1"), ((0,), 1), (0, [1]), ({}, {}), (0, 10 ** 59)]:
            self.judge(ALIKE, (one, two, papers), False)
        same = Book(Store((STILL,)), ((0,), (0,), (1,)))
        paper = (((), (), (("both", 0, 0),)),)
        self.judge(same, (0, 1, paper), True)
        for one, two in [(1, 0), (0, 0), (1, 1), (0, 2), (1, 2)]:
            self.judge(same, (one, two, paper), False)

    def test_wrong_likenesses(self):
        core, still = RIGHT[2]
        for papers in [(), (core,), (core, still, still), [core, still], (still, core), (still, still),
                       (core, None), (None, still), (core, list(still)), (core, ()), (core, ((), (), ())), {}, None, 0,
                       core, {0: core, 1: still}, "ab", ((), ()), (core, ((), (), (("both", True, 0),)))]:
            self.judge(ALIKE, (0, 1, papers), False)

    def test_no_triples(self):
        for thing in [(), (0, 1), (0, 1, RIGHT[2], 0), list(RIGHT), {0: 0, 1: 1, 2: RIGHT[2]}, ((0, 1), RIGHT[2]), None,
                      "abc", b"abc", range(3), ((0, 1, RIGHT[2]),), RIGHT[2]]:
            self.judge(ALIKE, thing, False)

    def test_kept_books_have_none(self):
        for book in [EXAMPLE, THREE, FULL]:
            for one, two in names_of(book):
                self.judge(book, (one, two, RIGHT[2]), False)
                self.judge(book, (one, two, (((), (), (("both", 0, 0),)),) * len(book.store.kinds)), False)

    def test_other_objects(self):
        for thing in odd_things():
            for told in [thing, (thing, 1, RIGHT[2]), (0, thing, RIGHT[2]), (0, 1, thing), (0, 1, (thing, RIGHT[2][1])),
                         (0, 1, (RIGHT[2][0], thing)), (0, 1, (RIGHT[2][0], ((), thing, (("both", 0, 0),))))]:
                # By their texts: True equals 1, but is no name.
                self.judge(ALIKE, told, repr(told) == repr(RIGHT))

    def test_what_is_handed_in_stays(self):
        thing = (0, 1, [[[("look", 0)], []], {"a": [1]}])
        before = copy.deepcopy(thing)
        is_denial(ALIKE, thing)
        self.assertEqual(thing, before)


class DriftingBooks(unittest.TestCase):
    def test_cells_with_drifts(self):
        book = Book(Store((MIST, SLIP)), ((0, 0), (1, 2)))
        self.assertEqual(apart_cells(book, 0, 1), [])
        self.assertIs(is_denial(book, denial(book)), True)


if __name__ == "__main__":
    unittest.main()
