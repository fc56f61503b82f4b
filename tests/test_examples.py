"""The examples e01 to e14 of the document, word for word."""

import unittest

from lookspoil.books import apart_cells
from lookspoil.borne import cuts_borne, meeting
from lookspoil.drying import dry_book, dry_program
from lookspoil.greatest import most_names
from lookspoil.judging import is_refutation
from lookspoil.kinds import Kind
from lookspoil.likenesses import is_likeness
from lookspoil.logs import clearing, names_in
from lookspoil.lying import lies_borne
from lookspoil.pairs import apart, common, heights
from lookspoil.programs import Program
from lookspoil.standins import stand_in
from lookspoil.stores import Book, Store
from lookspoil.sures import class_of, classes
from lookspoil.texts import kind_text
from lookspoil.ways import after_row, comes, way_end

core = Kind((((0, 0),), ((1, 0),)), ((), ()), ((0, ()), (1, (0,))))
still = Kind((((0, 0),), ((1, 1),)), ((), ()), ())
wheel = Kind((((0, 1),), ((0, 2),), ((1, 0),)), ((), (), ()), ())
one = Book(Store((core,)), ((0,), (1,)))
p = Program(Store((core,)), (("look", 0, ((0, 1), (1, 2))), ("tell", 0), ("tell", 1)))


class Examples(unittest.TestCase):
    def test_e01(self):
        self.assertEqual(comes(core, 1), [0, 1])
        self.assertEqual(way_end(core, 1, (("look", 0),)), 0)
        self.assertEqual(after_row(wheel, [0, 1, 2], (0, 1)), [0])

    def test_e02(self):
        self.assertIs(apart(core, 0, 1), False)
        self.assertIs(apart(still, 0, 1), True)

    def test_e03(self):
        self.assertEqual(heights(still, 0, 1), {(0, 1): 0})
        self.assertIsNone(common(core, 0, 1))

    def test_e04(self):
        self.assertIs(is_likeness(core, 0, 1, ((), (("look", 0),), (("both", 0, 0),))), True)

    def test_e05(self):
        self.assertEqual(classes(wheel), [(0, 0, 1)])
        self.assertEqual(class_of(core, 1), (0,))

    def test_e06(self):
        self.assertEqual(apart_cells(Book(Store((core, still)), ((1, 0), (0, 1))), 0, 1), [1])

    def test_e07(self):
        self.assertEqual(cuts_borne(p, one), 0)
        self.assertEqual(meeting(p, one, 0, 1), 1)

    def test_e08(self):
        self.assertIs(is_refutation(p, one, (1, (("spoilt", 0), ("step", 0)))), True)

    def test_e09(self):
        self.assertEqual(cuts_borne(dry_program((2, 1)), dry_book((2, 1))), 2)

    def test_e10(self):
        self.assertEqual(most_names(Store((wheel, still))), 2)

    def test_e11(self):
        self.assertEqual(lies_borne(Book(Store((still, still, still)), ((0, 0, 0), (1, 1, 1)))), 1)

    def test_e12(self):
        self.assertEqual(stand_in(still, core), (0, 0))
        self.assertIsNone(stand_in(core, still))

    def test_e13(self):
        self.assertEqual(names_in(one, (("seen", 0, 1),)), [1])
        self.assertEqual(clearing(one, ()), 1)
        self.assertIsNone(clearing(one, (("lost",),)))

    def test_e14(self):
        self.assertEqual(kind_text(core), "look 0:0\nlook 1:0\nput 0\nput 1 0\n")


if __name__ == "__main__":
    unittest.main()
