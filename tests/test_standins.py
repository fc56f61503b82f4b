"""14.1 and 14.2: stand-ins, replaced, veils and twin books, the tenth fact; example e12."""

import itertools
import random
import unittest

from lookspoil.books import apart_cells, kept
from lookspoil.errors import NoCell, NoStandIn, TooLarge
from lookspoil.greatest import greatest_book
from lookspoil.kinds import Kind
from lookspoil.standins import is_stand_in, replaced, stand_in, twin_book, veil
from lookspoil.stores import Book, Store
from tests.samples import (
    CORE, EIGHT, EVEN, FIVE, FOG, GEARS, LATE, LONE, MIST, SEVEN, SLIP, STEEP, STILL, WHEEL, apart_pairs, circle,
    many_kinds, odd_things, some_kinds)
from tests.worlds import THREE, kept_books, put_kinds, ring_kind


def joined(size, pairs):
    """A kind that looks leave as it is, in which just these pairs are apart."""
    alike = [pair for pair in itertools.combinations(range(size), 2) if pair not in pairs]
    looks = []
    for at in range(size):
        shared = [(number, at) for number, pair in enumerate(alike) if at in pair]
        looks.append(tuple(shared + [(len(alike) + at, at)]))
    return Kind(tuple(looks), ((),) * size, ())


def all_joined():
    """All kinds of this sort with at most three standings, and some with four."""
    made = []
    for size in (1, 2, 3):
        every = list(itertools.combinations(range(size), 2))
        for many in range(len(every) + 1):
            made += [joined(size, pairs) for pairs in itertools.combinations(every, many)]
    every = list(itertools.combinations(range(4), 2))
    made += [joined(4, pairs) for many in range(7) for pairs in list(itertools.combinations(every, many))[::4]]
    return made


def all_stand_ins(kind, other):
    """All stand-ins, ascending, by trying all tuples."""
    here, there = apart_pairs(kind), apart_pairs(other)
    return [
        thing for thing in itertools.product(range(kind.size), repeat=other.size)
        if all((thing[u], thing[v]) in here for u, v in there)]


SMALL = all_joined() + [CORE, STILL, WHEEL, MIST, SLIP, LONE, THREE] + some_kinds(
    30, "stand-ins", sizes=(2, 3, 4), answers=5, drifts=1)
LARGE = [LATE, FOG, STEEP, GEARS, EVEN, FIVE, SEVEN, EIGHT, circle(6), ring_kind(random.Random(1), (4, 4), 3)]


class StandIn(unittest.TestCase):
    def test_e12(self):
        self.assertEqual(stand_in(STILL, CORE), (0, 0))
        self.assertIsNone(stand_in(CORE, STILL))

    def test_the_least_of_all(self):
        sizes, first = set(), set()
        for kind, other in itertools.product(SMALL, repeat=2):
            every = all_stand_ins(kind, other)
            told = stand_in(kind, other)
            self.assertEqual(told, every[0] if every else None, (kind.looks, other.looks))
            sizes.add((kind.size, other.size, told is None))
            if told is not None:
                self.assertIs(type(told), tuple)
                first.add(told[0])
        self.assertEqual({(3, 3, False), (3, 3, True), (2, 4, True), (4, 2, True), (4, 4, False)} - sizes, set())
        self.assertTrue({0, 1} <= first, first)
        # Less standings may be apart from too few.
        self.assertEqual(stand_in(joined(4, [(2, 3)]), STILL), (2, 3))
        self.assertEqual(stand_in(joined(4, [(0, 3), (1, 2), (2, 3), (1, 3)]), THREE), (1, 2, 3))
        self.assertEqual(stand_in(joined(4, [(0, 3), (1, 2)]), joined(4, [(0, 1), (2, 3)])), (0, 3, 0, 3))
        self.assertEqual(stand_in(joined(3, [(1, 2)]), joined(4, [(0, 1), (2, 3)])), (1, 2, 1, 2))
        self.assertEqual(stand_in(joined(3, [(1, 2)]), joined(4, [(1, 3), (2, 3)])), (0, 1, 1, 2))

    def test_large_kinds(self):
        found = []
        for kind, other in itertools.product(LARGE + SMALL[:12], repeat=2):
            if kind.size ** other.size <= 70000:
                every = all_stand_ins(kind, other)
                found.append(bool(every))
                self.assertEqual(stand_in(kind, other), every[0] if every else None)
        self.assertTrue(found.count(True) > 30 and found.count(False) > 20, (found.count(True), len(found)))

    def test_eight_standings_each(self):
        self.assertEqual(stand_in(EVEN, EVEN), tuple(range(8)))
        self.assertEqual(stand_in(EVEN, EIGHT)[:2], (0, 0))
        self.assertIs(is_stand_in(EVEN, EIGHT, stand_in(EVEN, EIGHT)), True)
        self.assertIsNone(stand_in(EIGHT, EVEN))
        self.assertEqual(stand_in(EIGHT, joined(4, list(itertools.combinations(range(4), 2)))), (0, 2, 4, 6))
        seven = joined(8, [pair for pair in itertools.combinations(range(8), 2) if pair != (2, 5)])
        self.assertIsNone(stand_in(seven, EVEN))
        self.assertEqual(stand_in(EVEN, seven), (0, 1, 2, 3, 4, 2, 5, 6))
        self.assertEqual(stand_in(seven, seven), (0, 1, 2, 3, 4, 2, 6, 7))

    def test_itself(self):
        for kind in SMALL + LARGE:
            self.assertIs(is_stand_in(kind, kind, tuple(range(kind.size))), True)
            self.assertLessEqual(stand_in(kind, kind), tuple(range(kind.size)))


class IsStandIn(unittest.TestCase):
    def test_right_and_wrong_ones(self):
        found = []
        for kind, other in itertools.product(SMALL[:24:2] + SMALL[-12:], repeat=2):
            every = all_stand_ins(kind, other)
            for thing in itertools.product(range(kind.size), repeat=other.size):
                found.append(thing in every)
                self.assertIs(is_stand_in(kind, other, thing), found[-1])
        self.assertTrue(found.count(True) > 1000 and found.count(False) > 1000)

    def test_other_forms(self):
        for thing in [(0,), (0, 1, 0), (), [0, 1], (0, 2), (2, 0), (-1, 0), (0, -1), (False, 1), (0, True), ("0", 1),
                      (0, None), {0: 0, 1: 1}, "01", b"01", 1, None, range(2), ((0, 1),), (0, 10 ** 59), (0, (1,)),
                      iter((0, 1)), True, {0: 1}]:
            self.assertIs(is_stand_in(STILL, STILL, thing), False, repr(thing))
        self.assertIs(is_stand_in(STILL, STILL, (0, 1)), True)
        self.assertIs(is_stand_in(STILL, STILL, (1, 0)), True)
        self.assertIs(is_stand_in(STILL, STILL, (1, 1)), False)

    def test_any_object(self):
        for thing in odd_things():
            for kind, other in [(STILL, THREE), (CORE, WHEEL), (EVEN, EVEN), (THREE, CORE)]:
                right = other == CORE and type(thing) is tuple and thing == (0, 0)
                self.assertIs(is_stand_in(kind, other, thing), right)
                self.assertIs(is_stand_in(kind, other, (thing,) * other.size), False)
                self.assertIs(is_stand_in(kind, other, (0,) * (other.size - 1) + (thing,)), False)


class Replaced(unittest.TestCase):
    def test_against_the_words(self):
        chance = random.Random("replaced")
        many = 0
        for book in kept_books(60, "replaced"):
            for cell, kind in itertools.product(range(len(book.store.kinds)), chance.sample(SMALL + LARGE, 12)):
                thing = stand_in(kind, book.store.kinds[cell])
                if thing is None:
                    continue
                many += 1
                made = replaced(book, cell, kind, thing)
                kinds = list(book.store.kinds)
                kinds[cell] = kind
                layouts = [list(layout) for layout in book.layouts]
                for layout in layouts:
                    layout[cell] = thing[layout[cell]]
                self.assertIs(type(made), Book)
                self.assertTrue(made == Book(Store(tuple(kinds)), tuple(tuple(layout) for layout in layouts)))
                self.assertIs(kept(made), True)
        self.assertGreater(many, 200)

    def test_what_is_apart_stays_apart_there(self):
        book = Book(Store((WHEEL, STILL)), ((0, 0), (2, 1), (1, 1)))
        made = replaced(book, 1, THREE, (2, 0))
        self.assertEqual(made.layouts, ((0, 2), (2, 0), (1, 0)))
        self.assertEqual([apart_cells(made, 0, 1), apart_cells(made, 1, 2)], [[1], []])

    def test_the_elder_book_stays(self):
        store = Store((WHEEL, STILL))
        book = Book(store, ((0, 0), (2, 1)))
        replaced(book, 1, THREE, (2, 0))
        self.assertTrue(book == Book(Store((WHEEL, STILL)), ((0, 0), (2, 1))))
        self.assertTrue(book.store == store)

    def test_the_same_kind_may_be_turned(self):
        book = Book(Store((STILL,)), ((0,), (1,)))
        self.assertEqual(replaced(book, 0, STILL, (1, 0)).layouts, ((1,), (0,)))

    def test_a_book_of_more_than_twelve_names(self):
        book = greatest_book(Store((STILL,) * 4))
        made = replaced(book, 2, THREE, (2, 1))
        self.assertEqual(len(made.layouts), 16)
        self.assertEqual(made.layouts, tuple(
            layout[:2] + ((2, 1)[layout[2]],) + layout[3:] for layout in book.layouts))
        self.assertIs(kept(made), True)

    def test_no_cell_ahead_of_no_stand_in(self):
        book = Book(Store((STILL, STILL)), ((0, 0), (0, 1)))
        for cell in [2, -1, 5, True, False, None, "0", (0,), [0], 10 ** 59] + odd_things():
            for thing in ((0, 1), (0, 0), None):
                with self.assertRaises(NoCell, msg=repr(cell)[:200]):
                    replaced(book, cell, STILL, thing)
        for thing in [(0, 0), (1, 1), (0, 2), (0,), (0, 1, 0), [0, 1], None, (True, 0), (0, False)] + odd_things():
            for cell in (0, 1):
                with self.assertRaises(NoStandIn, msg=repr(thing)[:200]):
                    replaced(book, cell, STILL, thing)
                with self.assertRaises(NoStandIn):
                    replaced(book, cell, CORE, thing)
        with self.assertRaises(NoStandIn):
            replaced(Book(Store((STILL, CORE)), ((0, 0), (0, 1))), 0, THREE, (1, 1))
        self.assertEqual(replaced(Book(Store((STILL, CORE)), ((0, 0), (0, 1))), 1, THREE, (1, 1)).layouts,
                         ((0, 1), (0, 1)))


FEW = [kind for kind in many_kinds() + SMALL + put_kinds(20, "veils") if kind.size <= 4]
MORE = [kind for kind in many_kinds() + LARGE if kind.size > 4]


class Veil(unittest.TestCase):
    def test_veils(self):
        seen = set()
        for kind in FEW:
            made = veil(kind)
            self.assertIs(type(made), Kind)
            self.assertTrue(made == Kind(made.looks, made.drifts, made.puts))
            self.assertEqual((made.size, made.drifts, made.puts), (kind.size, ((),) * kind.size, ()))
            for standing, outcomes in enumerate(made.looks):
                self.assertTrue(1 <= len(outcomes) <= 4)
                self.assertTrue(all(goal == standing and 0 <= answer <= 9 for answer, goal in outcomes))
            here, there = apart_pairs(kind), apart_pairs(made)
            for u, v in itertools.combinations(range(kind.size), 2):
                self.assertEqual((u, v) in there, (u, v) not in here)
            seen.add((kind.size, len(here) // 2))
            self.assertTrue(made == veil(kind))
        self.assertTrue({(1, 0), (2, 0), (2, 1), (3, 0), (3, 3), (4, 0), (4, 3), (4, 6)} <= seen, seen)

    def test_twin_books(self):
        for kind in FEW:
            book = twin_book(kind)
            self.assertIs(type(book), Book)
            self.assertTrue(book == Book(Store((kind, veil(kind))), tuple((at, at) for at in range(kind.size))))
            self.assertIs(kept(book), True)

    def test_the_tenth_fact(self):
        chance = random.Random("tenth")
        found = []
        for kind, other in [(chance.choice(FEW), chance.choice(SMALL + LARGE)) for _ in range(150)]:
            every = list(itertools.product(range(other.size), repeat=kind.size))
            things = chance.sample(every, min(20, len(every)))
            least = stand_in(other, kind)
            for thing in things if least is None else things + [least]:
                book = Book(Store((other, veil(kind))), tuple((at, number) for number, at in enumerate(thing)))
                found.append(kept(book))
                self.assertEqual(kept(book), is_stand_in(other, kind, thing))
                if kept(book):
                    self.assertTrue(replaced(twin_book(kind), 0, other, thing) == book)
        self.assertTrue(found.count(True) > 300 and found.count(False) > 300, found.count(True))

    def test_too_large_exactly_above_4(self):
        self.assertEqual({kind.size for kind in FEW} | {kind.size for kind in MORE}, {1, 2, 3, 4, 5, 6, 7, 8})
        for kind in MORE:
            for call in (veil, twin_book):
                with self.assertRaises(TooLarge) as caught:
                    call(kind)
                self.assertEqual(caught.exception.most, 4)


if __name__ == "__main__":
    unittest.main()
