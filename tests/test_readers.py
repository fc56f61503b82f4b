"""10.1 and 10.3: bears, reader, the sixth fact, and most_looks."""

import random
import unittest

from lookspoil.benches import Bench
from lookspoil.books import denial, kept
from lookspoil.borne import cuts_borne, dead_places, gap_needed, meeting
from lookspoil.errors import OtherStore
from lookspoil.judging import is_refutation, is_table, refutation, table
from lookspoil.kinds import Kind
from lookspoil.plans import is_plan, plan
from lookspoil.programs import Program, has_puts
from lookspoil.readers import bears, most_looks, reader
from lookspoil.stores import Book, Store
from lookspoil.traces import follow
from tests.samples import CORE, MIST, STEEP, STILL
from tests.worlds import (
    BOTH, BUSY_BOOK, OTHERS, PAIR, SHORT, bears_found, chain, chance_layout, chance_program, chance_store, dry_case,
    kept_books, mixed_cases, put_kinds, ring_kind, uncut_from, with_put_in)

BOOKS = kept_books(80, "readers")


def large_book():
    """A kept book of twelve names in four cells, each of which needs many looks."""
    slow = Kind(tuple(((0, at + 1),) for at in range(5)) + (((0, 6),), ((1, 5),), ((0, 7),)), ((),) * 8, ())
    return Book(Store((slow,) * 4), tuple(
        tuple(7 if name >> at & 1 else 0 for at in range(4)) for name in range(12)))


def changed(program, chance):
    """A program with one goal or one name changed."""
    steps = program.steps
    at = chance.randrange(len(steps))
    if steps[at][0] == "tell":
        return Program(program.store, with_put_in(steps, at, ("tell", (steps[at][1] + 1) % 12)))
    goals = steps[at][2]
    chosen = chance.randrange(len(goals))
    goal = (goals[chosen][0], chance.randrange(at + 1, len(steps)))
    return Program(program.store, with_put_in(steps, at, ("look", steps[at][1], with_put_in(goals, chosen, goal))))


class Bears(unittest.TestCase):
    def test_examples(self):
        self.assertIs(bears(SHORT, BOTH), False)
        self.assertIs(bears(SHORT, Book(SHORT.store, ((0,),))), True)
        self.assertIs(bears(SHORT, Book(SHORT.store, ((1,),))), False)
        still = Program(Store((STILL,)), (("look", 0, ((0, 1), (1, 2))), ("tell", 0), ("tell", 1)))
        self.assertIs(bears(still, Book(still.store, ((0,), (1,)))), True)
        self.assertIs(bears(still, Book(still.store, ((1,), (0,)))), False)

    def test_against_a_search(self):
        chance = random.Random("bears")
        found = []
        for program, book in mixed_cases(150, "bears"):
            found.append(bears_found(program, book))
            self.assertIs(bears(program, book), found[-1])
        for book in BOOKS:
            program = reader(book)
            if len(program.steps) <= 100:
                for _ in range(4):
                    other = changed(program, chance)
                    found.append(bears_found(other, book))
                    self.assertIs(bears(other, book), found[-1])
        self.assertTrue(found.count(True) > 50 and found.count(False) > 100, found.count(True))

    def test_a_program_with_a_put_bears_nothing(self):
        chance = random.Random("puts")
        for _ in range(30):
            store = chance_store(chance, put_kinds(20, "bears puts"))
            program = chance_program(chance, store, 8, (0,))
            book = Book(store, (chance_layout(chance, store),))
            self.assertIs(bears(program, book), not has_puts(program))
        dead = Program(PAIR, (("tell", 0), ("put", 0, 0, 2), ("tell", 0)))
        self.assertIs(bears(dead, Book(PAIR, ((0, 0),))), False)
        self.assertIsNone(refutation(dead, Book(PAIR, ((0, 0),))))

    def test_strangers_may_have_looked(self):
        # From the layout itself each run tells 0; behind a look of a stranger, 1.
        book = Book(SHORT.store, ((1,),))
        other = Program(SHORT.store, (("look", 0, ((0, 1), (1, 2))), ("tell", 1), ("tell", 0)))
        self.assertEqual([here[0] for here in uncut_from(other, [(1,)])], [0, 2])
        self.assertIs(bears(other, book), False)
        self.assertIs(bears(Program(SHORT.store, other.steps[:1] + (("tell", 0),) * 2), book), True)

    def test_each_cell_may_have_been_looked_at_apart(self):
        # Only where cell 0 has been looked at, and cell 1 has not, 1 is told.
        store = Store((CORE, CORE))
        steps = (("look", 0, ((0, 1), (1, 2))), ("look", 1, ((0, 2), (1, 3))), ("tell", 0), ("tell", 1))
        self.assertIs(bears(Program(store, steps), Book(store, ((1, 1),))), False)
        self.assertIs(bears(Program(store, steps), Book(store, ((1, 0),))), True)

    def test_drifts_between_looks(self):
        drifting = Kind((((0, 0),), ((1, 1),)), ((1,), ()), ())
        store = Store((drifting,))
        steps = (("look", 0, ((0, 1), (1, 2))), ("look", 0, ((0, 2), (1, 3))), ("tell", 0), ("tell", 1))
        self.assertIs(bears(Program(store, steps), Book(store, ((0,),))), False)
        self.assertIs(bears(Program(store, steps), Book(store, ((1,),))), True)

    def test_tells_of_names_that_the_book_does_not_have(self):
        program = Program(Store((STILL,)), (("tell", 11),))
        self.assertIs(bears(program, Book(program.store, ((0,),))), False)
        self.assertIs(bears(Program(program.store, (("tell", 0), ("tell", 11))), Book(program.store, ((0,),))), True)

    def test_what_bears_also_keeps(self):
        for program, book in mixed_cases(60, "keeps"):
            if bears(program, book):
                self.assertIsNotNone(table(program, book))

    def test_four_hundred_steps(self):
        store = Store((CORE, STILL))
        program = chain(store, 400)
        self.assertIs(bears(program, Book(store, ((1, 0),))), True)
        self.assertIs(bears(program, Book(store, ((1, 0), (0, 1)))), False)
        self.assertIs(bears(chain(store, 400, 1), Book(store, ((1, 0),))), False)

    def test_other_stores(self):
        for other in OTHERS:
            with self.assertRaises(OtherStore):
                bears(SHORT, other)
            with self.assertRaises(OtherStore):
                bears(Program(PAIR, (("put", 0, 0, 1), ("tell", 0))), other)


class Reader(unittest.TestCase):
    def check(self, book):
        made = reader(book)
        self.assertIs(type(made), Program)
        self.assertTrue(made.store == book.store)
        self.assertIs(bears(made, book), True)
        self.assertTrue(made == reader(book))
        return made

    def right_form(self, made):
        """Whether the steps are such as the class lets pass, whatever their number."""
        size = len(made.steps)
        for place, step in enumerate(made.steps):
            self.assertEqual(type(step), tuple)
            if step[0] == "tell":
                self.assertEqual(len(step), 2)
                continue
            word, cell, goals = step
            self.assertEqual((word, type(goals)), ("look", tuple))
            answers = sorted({answer for outcomes in made.store.kinds[cell].looks for answer, _ in outcomes})
            self.assertEqual([answer for answer, _ in goals], answers)
            self.assertTrue(all(place < goal < size for _, goal in goals))

    def test_one_name(self):
        book = Book(Store((CORE, MIST)), ((1, 2),))
        self.assertEqual(reader(book).steps[0], ("tell", 0))
        self.check(book)

    def test_two_names(self):
        book = Book(Store((STILL,)), ((1,), (0,)))
        made = self.check(book)
        self.assertEqual(follow(made, (1,), (("step", 0),) * most_looks(made))[0], len(made.steps) - 2)

    def test_kept_books_of_all_sorts(self):
        names = set()
        for book in BOOKS:
            made = self.check(book)
            self.right_form(made)
            self.assertIs(has_puts(made), False)
            names.add(len(book.layouts))
            if len(made.steps) <= 400:
                self.assertTrue(made == Program(made.store, made.steps))
        self.assertTrue({1, 2, 3, 4, 5} <= names, names)

    def test_it_bears_by_a_search_and_keeps_the_book(self):
        for book in BOOKS:
            made = reader(book)
            if len(made.steps) < 60:
                self.assertTrue(bears_found(made, book))
                self.assertIsNotNone(table(made, book))
                self.assertIsNone(refutation(made, book))

    def test_the_sixth_fact(self):
        found = []
        for _, book in mixed_cases(150, "sixth"):
            found.append(kept(book))
            self.assertEqual(reader(book) is None, not found[-1])
            if found[-1]:
                self.check(book)
        self.assertTrue(found.count(True) > 20 and found.count(False) > 20)

    def test_books_that_are_not_kept(self):
        for book in BOOKS:
            layouts = book.layouts + book.layouts[-1:]
            self.assertIsNone(reader(Book(book.store, layouts)))
            self.assertIsNone(reader(Book(book.store, layouts[::-1])))
        self.assertIsNone(reader(BOTH))

    def test_names_apart_in_unlike_cells(self):
        store = Store((CORE, STILL, STILL))
        self.check(Book(store, ((1, 0, 0), (0, 1, 0), (1, 1, 1))))
        self.check(Book(store, ((1, 0, 0), (0, 1, 0), (1, 0, 1), (1, 1, 1))))

    def test_twelve_names_and_more_than_400_places(self):
        book = large_book()
        made = self.check(book)
        self.right_form(made)
        self.assertGreater(len(made.steps), 400)
        self.assertEqual(sorted({step[1] for step in made.steps if step[0] == "tell"}), list(range(12)))
        self.assertGreaterEqual(most_looks(made), 6)
        self.assertEqual(follow(made, book.layouts[3], ()), (0, book.layouts[3]))

    def test_a_reader_of_more_than_400_places_may_be_passed_on(self):
        made = self.check(BUSY_BOOK)
        self.assertGreater(len(made.steps), 400)
        twice = Book(made.store, BUSY_BOOK.layouts[:1] * 2)
        told = plan(made, twice, denial(twice))
        self.assertIs(is_plan(made, twice, 0, 1, told), True)
        self.assertIs(is_table(made, BUSY_BOOK, table(made, BUSY_BOOK)), True)
        self.assertIsNone(refutation(made, BUSY_BOOK))
        self.assertEqual(is_refutation(made, twice, (1, told[1])), True)
        self.assertIsNone(cuts_borne(made, BUSY_BOOK))
        self.assertEqual((cuts_borne(made, twice), gap_needed(made, BUSY_BOOK)), (-1, 0))
        self.assertEqual((meeting(made, twice, 0, 1), meeting(made, BUSY_BOOK, 0, 1)), (0, None))
        self.assertEqual([place for place in dead_places(made, BUSY_BOOK) if made.steps[place][0] == "tell"], [])
        bench = Bench(made, BUSY_BOOK.layouts[5])
        while bench.name() is None:
            bench.do([move for move in bench.moves() if move[0] == "step"][-1])
        self.assertEqual(bench.name(), 5)
        self.assertEqual(follow(made, BUSY_BOOK.layouts[5], bench.trace()), (bench.place, bench.layout()))

    def test_stores_with_many_layouts(self):
        # No program is passed, so that nothing bounds the standings but the store.
        store = Store((STEEP,) * 5)
        made = reader(Book(store, tuple((0,) * at + (7,) * (5 - at) for at in range(6))))
        self.right_form(made)

    def test_drifts_and_more_outcomes(self):
        chance = random.Random("noisy")
        seen = 0
        while seen < 15:
            store = Store(tuple(ring_kind(chance, (2, 2, 1), 10, 0.7, 0.5) for _ in range(2)))
            book = Book(store, tuple(chance_layout(chance, store) for _ in range(2)))
            if kept(book):
                seen += 1
                self.assertTrue(bears_found(self.check(book), book))


class MostLooks(unittest.TestCase):
    def found(self, program, place=0):
        """The greatest number of looks from a place on, by trying all ways."""
        step = program.steps[place]
        if step[0] == "tell":
            return 0
        if step[0] == "put":
            return self.found(program, step[3])
        return 1 + max(self.found(program, goal) for _, goal in step[2])

    def test_examples(self):
        self.assertEqual(most_looks(SHORT), 1)
        self.assertEqual(most_looks(Program(SHORT.store, (("tell", 3),))), 0)
        self.assertEqual(most_looks(dry_case((2, 1, 1))[0]), 3)

    def test_long_ones(self):
        for size in (2, 100, 400):
            self.assertEqual(most_looks(chain(Store((STILL,)), size)), size - 1)

    def test_puts_are_no_looks(self):
        steps = (("put", 0, 0, 1), ("look", 0, ((0, 2), (1, 4))), ("put", 0, 1, 3), ("look", 0, ((0, 4), (1, 4))),
                 ("tell", 0))
        self.assertEqual(most_looks(Program(SHORT.store, steps)), 2)
        self.assertEqual(most_looks(Program(SHORT.store, (("put", 0, 0, 1), ("tell", 0)))), 0)

    def test_places_that_nothing_leads_to(self):
        steps = (("look", 0, ((0, 4), (1, 4))), ("look", 0, ((0, 2), (1, 2))), ("look", 0, ((0, 3), (1, 3))),
                 ("look", 0, ((0, 4), (1, 4))), ("tell", 0))
        self.assertEqual(most_looks(Program(SHORT.store, steps)), 1)
        self.assertEqual(most_looks(Program(SHORT.store, (("tell", 0),) + steps[1:])), 0)

    def test_ways_that_no_trace_goes_count_too(self):
        steps = (("look", 0, ((0, 3), (1, 1))), ("look", 0, ((0, 3), (1, 2))), ("look", 0, ((0, 3), (1, 3))),
                 ("tell", 0))
        self.assertEqual(most_looks(Program(SHORT.store, steps)), 3)

    def test_by_chance(self):
        unlike = set()
        for program, _ in mixed_cases(120, "most looks"):
            unlike.add(most_looks(program))
            self.assertEqual(most_looks(program), self.found(program))
        self.assertTrue({0, 1, 2, 3} <= unlike)


if __name__ == "__main__":
    unittest.main()
