"""2.1: stores and books, right and wrong ones, and when they are equal."""

import unittest
from unittest import mock

from lookspoil.errors import BadBook, BadStore
from lookspoil.kinds import Kind
from lookspoil.stores import Book, Store
from tests.samples import CORE, SAMPLES, STILL, WHEEL, odd_things

PAIR = Store((WHEEL, STILL))


class Stores(unittest.TestCase):
    def test_one_to_five_kinds(self):
        for many in range(1, 6):
            store = Store(SAMPLES[:many])
            self.assertEqual(store.kinds, SAMPLES[:many])
            self.assertEqual(set(vars(store)), {"kinds"})
        self.assertEqual(Store((CORE,) * 5).kinds, (CORE,) * 5)

    def test_bad_stores(self):
        wrong = [(), (CORE,) * 6, [CORE], CORE, None, (CORE, None), (None, CORE), ((CORE,),), ([CORE],), (Kind,),
                 (Store((CORE,)),), (CORE, 0), ("core",), {CORE.size: CORE}, ((CORE.looks, CORE.drifts, CORE.puts),)]
        for thing in wrong:
            with self.assertRaises(BadStore):
                Store(thing)
        for thing in odd_things():
            if type(thing) is not tuple or thing[:1] != (CORE,):
                with self.assertRaises(BadStore):
                    Store(thing)
            if thing != CORE:
                with self.assertRaises(BadStore):
                    Store((CORE, thing))

    def test_equal_by_the_kinds(self):
        same = Store((Kind(WHEEL.looks, WHEEL.drifts, WHEEL.puts), STILL))
        self.assertTrue(PAIR == same)
        self.assertFalse(PAIR != same)
        for other in [Store((STILL, WHEEL)), Store((WHEEL,)), Store((WHEEL, STILL, STILL)), Store((WHEEL, CORE))]:
            self.assertFalse(PAIR == other)
            self.assertTrue(PAIR != other)

    def test_equal_to_no_other_thing(self):
        for thing in odd_things() + [PAIR.kinds, mock.Mock(kinds=PAIR.kinds), Book(PAIR, ((0, 0),))]:
            self.assertIs(PAIR == thing, False)
            self.assertIs(PAIR != thing, True)


class Books(unittest.TestCase):
    def test_one_to_twelve_layouts(self):
        for many in range(1, 13):
            layouts = tuple((name % 3, name % 2) for name in range(many))
            book = Book(PAIR, layouts)
            self.assertEqual((book.store, book.layouts), (PAIR, layouts))
            self.assertEqual(set(vars(book)), {"store", "layouts"})

    def test_a_layout_may_stand_twice(self):
        self.assertEqual(Book(PAIR, ((2, 1), (2, 1))).layouts, ((2, 1), (2, 1)))

    def test_bad_books(self):
        wrong = [(), ((0, 0),) * 13, [(0, 0)], (0, 0), None, ([0, 0],), ((0,),), ((0, 0, 0),), ((3, 0),), ((0, 2),),
                 ((-1, 0),), ((0, -1),), ((True, 0),), ((0, False),), ((0, "0"),), (("0", 0),), ((0, None),), ((),),
                 ((0, 0), None), ((0, 0), (0, 2)), ((0, 0), [0, 0]), (((0, 0),),), (((0,), 0),), "00", {0: 0},
                 (b"\x00\x00",), (range(2),), ((0, 10 ** 59),)]
        for thing in wrong:
            with self.assertRaises(BadBook, msg=repr(thing)):
                Book(PAIR, thing)
        for thing in odd_things():
            with self.assertRaises(BadBook):
                Book(PAIR, thing)
            if thing != (0, 0):
                with self.assertRaises(BadBook):
                    Book(PAIR, ((0, 0), thing))
            with self.assertRaises(BadBook):
                Book(PAIR, ((0, thing),))

    def test_equal_by_both_parts(self):
        book = Book(PAIR, ((0, 0), (2, 1)))
        self.assertTrue(book == Book(Store((WHEEL, STILL)), ((0, 0), (2, 1))))
        self.assertFalse(book != Book(Store((WHEEL, STILL)), ((0, 0), (2, 1))))
        for other in [Book(PAIR, ((0, 0),)), Book(PAIR, ((2, 1), (0, 0))), Book(Store((WHEEL, CORE)), ((0, 0), (2, 1)))]:
            self.assertFalse(book == other)
            self.assertTrue(book != other)

    def test_equal_to_no_other_thing(self):
        book = Book(PAIR, ((0, 0),))
        twin = mock.Mock(store=PAIR, layouts=((0, 0),))
        for thing in odd_things() + [book.layouts, (PAIR, ((0, 0),)), PAIR, twin]:
            self.assertIs(book == thing, False)
            self.assertIs(book != thing, True)


if __name__ == "__main__":
    unittest.main()
