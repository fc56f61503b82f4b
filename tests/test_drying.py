"""11.1: cells that dry, and the seventh fact; example e09."""

import itertools
import random
import unittest

from lookspoil.borne import cuts_borne, meeting
from lookspoil.drying import dry_book, dry_program, dry_store, drying
from lookspoil.errors import NoLengths, NoNumber
from lookspoil.kinds import Kind
from lookspoil.programs import Program, has_puts
from lookspoil.readers import most_looks
from lookspoil.stores import Book, Store
from lookspoil.sures import class_of, sure
from lookspoil.traces import follow
from tests.samples import odd_things
from tests.worlds import chance_program, cuts_of_worst

LENGTHS = [(1,), (2,), (7,), (1, 1), (2, 1), (1, 3), (7, 7), (1, 2, 3), (2, 2, 2, 1), (1, 1, 1, 1, 1), (3, 1, 2, 1, 2)]


class Drying(unittest.TestCase):
    def test_each_number(self):
        for most in range(1, 8):
            kind = drying(most)
            self.assertIs(type(kind), Kind)
            looks = tuple(((1, at - 1),) if at else ((0, 0),) for at in range(most + 1))
            self.assertEqual((kind.looks, kind.drifts, kind.puts, kind.size), (looks, ((),) * (most + 1), (), most + 1))
            self.assertIs(sure(kind), True)
            self.assertEqual(class_of(kind, most), (0,))
        self.assertTrue(drying(1) == Kind((((0, 0),), ((1, 0),)), ((), ()), ()))

    def test_no_number(self):
        for thing in [0, 8, -1, 10 ** 59, True, False, None, "1", (1,), [1], b"1"] + odd_things():
            with self.assertRaises(NoNumber):
                drying(thing)


class Dry(unittest.TestCase):
    def test_stores_and_books(self):
        for lengths in LENGTHS:
            store, book = dry_store(lengths), dry_book(lengths)
            self.assertIs(type(store), Store)
            self.assertTrue(store == Store(tuple(drying(most) for most in lengths)))
            self.assertTrue(book == Book(store, (lengths, (0,) * len(lengths))))

    def test_programs(self):
        for lengths in LENGTHS:
            program = dry_program(lengths)
            self.assertIs(type(program), Program)
            self.assertTrue(program.store == dry_store(lengths))
            self.assertTrue(program == Program(program.store, program.steps))
            self.assertEqual(len([step for step in program.steps if step[0] == "look"]), len(lengths))
            self.assertEqual(most_looks(program), len(lengths))
            self.assertIs(has_puts(program), False)

    def test_what_programs_tell_from_each_layout(self):
        for lengths in [(1,), (3,), (2, 1), (1, 2, 1), (1, 1, 1, 1, 1)]:
            program = dry_program(lengths)
            for layout in itertools.product(*[range(most + 1) for most in lengths]):
                first = next((cell for cell, at in enumerate(layout) if at), len(lengths))
                looks = min(first + 1, len(lengths))
                place, now = follow(program, layout, (("step", 0),) * looks)
                self.assertEqual(program.steps[place], ("tell", 0 if any(layout) else 1))
                self.assertEqual(now, tuple(at - (cell == first) for cell, at in enumerate(layout)))
                for cell in range(looks):
                    self.assertEqual(program.steps[follow(program, layout, (("step", 0),) * cell)[0]][:2], ("look", cell))

    def test_no_lengths(self):
        for thing in [(), (1,) * 6, [1], [1, 2], 1, None, (0,), (8,), (1, 0), (8, 1), (-1,), (True,), (1, True),
                      (None,), ("1",), "1", b"\x01", ((1,),), {1: 1}, range(1, 3), (1, 10 ** 59), (1, [1])]:
            for call in (dry_store, dry_book, dry_program):
                with self.assertRaises(NoLengths, msg=repr(thing)):
                    call(thing)
        for thing in odd_things():
            for call in (dry_store, dry_book, dry_program):
                for lengths in [thing, (thing,), (1, thing), (thing, 1)]:
                    with self.assertRaises(NoLengths):
                        call(lengths)

    def test_equal_calls_give_equal_answers(self):
        for lengths in LENGTHS:
            for call in (dry_store, dry_book, dry_program):
                self.assertTrue(call(lengths) == call(lengths))


class SeventhFact(unittest.TestCase):
    def test_the_cuts_that_dry_program_bears(self):
        for lengths in LENGTHS:
            program, book = dry_program(lengths), dry_book(lengths)
            self.assertEqual(cuts_borne(program, book), sum(lengths) - 1)
            self.assertEqual(meeting(program, book, 0, 1), sum(lengths))
        self.assertEqual(cuts_borne(dry_program((2, 1)), dry_book((2, 1))), 2)

    def test_by_a_search_of_its_own(self):
        for lengths in [(1,), (3,), (2, 1), (1, 2, 1)]:
            self.assertEqual(cuts_of_worst(dry_program(lengths), dry_book(lengths)), sum(lengths))

    def test_other_programs_without_puts(self):
        chance = random.Random("seventh")
        found = set()
        for _ in range(150):
            lengths = tuple(chance.randint(1, 3) for _ in range(chance.randint(1, 3)))
            program = chance_program(chance, dry_store(lengths), chance.randint(1, 12), words=("look", "look", "tell"))
            cuts = meeting(program, dry_book(lengths), 0, 1)
            self.assertTrue(cuts is not None and 0 <= cuts <= sum(lengths))
            found.add(cuts)
        self.assertTrue({0, 1, 2} <= found, found)


if __name__ == "__main__":
    unittest.main()
