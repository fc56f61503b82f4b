"""8.1: tables, refutations and the fourth fact; example e08."""

import copy
import random
import unittest

from lookspoil.books import kept
from lookspoil.errors import OtherStore
from lookspoil.judging import is_refutation, is_table, refutation, table
from lookspoil.kinds import Kind
from lookspoil.programs import Program
from lookspoil.stores import Book, Store
from lookspoil.traces import cuts_in, follow
from tests.samples import CORE, MIST, STILL, odd_things, one_by_one
from tests.worlds import (
    BOTH, OTHERS, SHORT, chain, chance_trace, cuts_of_worst, dry_case, fewest_cuts, graph_from, keeping_cases,
    mixed_cases, some_cases, with_put_in, wrong_tells)

CASES = mixed_cases(150, "judging")
EASY = Program(Store((STILL,)), (("look", 0, ((0, 1), (1, 2))), ("tell", 0), ("tell", 1)))
EASY_BOOK = Book(EASY.store, ((0,), (1,)))
EASY_TABLE = (((0, (0,)), (1, (0,))), ((0, (1,)), (2, (1,))))


class Tables(unittest.TestCase):
    def test_example(self):
        told = table(EASY, EASY_BOOK)
        self.assertEqual(told, EASY_TABLE)
        self.assertIsNone(table(SHORT, BOTH))

    def test_the_least_one_against_a_search(self):
        there, absent = 0, 0
        for program, book in CASES:
            rows = [set(graph_from(program, layout)) for layout in book.layouts]
            told = table(program, book)
            if any(wrong_tells(program, row, name) for name, row in enumerate(rows)):
                self.assertIsNone(told)
                absent += 1
                continue
            there += 1
            self.assertEqual((type(told), len(told)), (tuple, len(rows)))
            for row, found in zip(rows, told):
                self.assertEqual((type(found), set(found), len(found)), (tuple, row, len(row)))
                self.assertTrue(one_by_one(found))
            self.assertIs(is_table(program, book, told), True)
            self.assertEqual(table(program, book), told)
        self.assertTrue(there > 20 and absent > 50, (there, absent))

    def test_each_sort_of_move_can_refute(self):
        # The run tells 0 at an answer 1, and 1 at an answer 0, which only the move can bring about.
        steps = (("look", 0, ((0, 1), (1, 2))), ("tell", 1), ("put", 0, 0, 3), ("look", 0, ((0, 4), (1, 4))),
                 ("tell", 0))
        for looks, drifts, put, trace in [
                (STILL.looks, ((), (0,)), (1, ()), (("drift", 0, 0), ("step", 0))),
                (CORE.looks, ((), ()), (1, ()), (("spoilt", 0), ("step", 0))),
                (STILL.looks, ((), ()), (0, ()), (("step", 0), ("step", 0), ("cut",), ("step", 0))),
                (STILL.looks, ((), ()), (1, (0, 1)), (("step", 0), ("torn", 0), ("step", 0)))]:
            store = Store((Kind(looks, drifts, (put,)),))
            program, book = Program(store, steps), Book(store, ((1,),))
            self.assertEqual(cuts_in(refutation(program, book)[1]), cuts_in(trace))
            self.assertIsNone(table(program, book))
            self.assertIs(is_refutation(program, book, (0, trace)), True)
        still = Store((Kind(STILL.looks, STILL.drifts, ((1, (1,)),)),))
        self.assertIsNone(refutation(Program(still, steps), Book(still, ((1,),))))

    def test_other_stores(self):
        for other in OTHERS:
            for call in [lambda: table(SHORT, other), lambda: refutation(SHORT, other)]:
                with self.assertRaises(OtherStore):
                    call()
            for thing in [None, EASY_TABLE, (1, (("spoilt", 0), ("step", 0)))]:
                with self.assertRaises(OtherStore):
                    is_table(SHORT, other, thing)
                with self.assertRaises(OtherStore):
                    is_refutation(SHORT, other, thing)

    def test_equal_stores_are_no_other_ones(self):
        self.assertEqual(table(EASY, Book(Store((STILL,)), ((0,), (1,)))), EASY_TABLE)


class Refutations(unittest.TestCase):
    def test_example(self):
        name, trace = refutation(SHORT, BOTH)
        self.assertEqual((name, cuts_in(trace)), (1, 1))
        self.assertIsNone(refutation(EASY, EASY_BOOK))

    def test_as_few_cuts_as_possible_against_a_search(self):
        found = set()
        for program, book in CASES:
            told, worst = refutation(program, book), cuts_of_worst(program, book)
            self.assertEqual(told is None, worst is None)
            found.add(worst)
            if told is not None:
                name, trace = told
                self.assertEqual((type(told), type(trace), cuts_in(trace)), (tuple, tuple, worst))
                place, _ = follow(program, book.layouts[name], trace)
                self.assertEqual(program.steps[place][0], "tell")
                self.assertNotEqual(program.steps[place][1], name)
                self.assertIs(is_refutation(program, book, told), True)
                self.assertEqual(refutation(program, book), told)
        self.assertTrue({None, 0, 1, 2, 3} <= found, found)

    def test_the_fourth_fact(self):
        for program, book in CASES:
            self.assertNotEqual(table(program, book) is None, refutation(program, book) is None)

    def test_no_book_that_is_not_kept(self):
        seen = 0
        for program, book in CASES:
            if not kept(book):
                seen += 1
                self.assertIsNotNone(refutation(program, book))
        self.assertGreater(seen, 20)

    def test_names_that_the_book_does_not_have_are_other_ones(self):
        program = Program(Store((STILL,)), (("tell", 11),))
        book = Book(program.store, ((0,),))
        self.assertEqual(refutation(program, book), (0, ()))
        self.assertIsNone(table(program, book))
        self.assertIs(is_refutation(program, book, (0, ())), True)
        self.assertIs(is_table(program, book, (((0, (0,)),),)), False)

    def test_four_hundred_steps(self):
        store = Store((CORE, STILL))
        steps = chain(store, 399).steps[:-1] + (("look", 0, ((0, 399), (1, 399))), ("tell", 0))
        program = Program(store, steps)
        places = [(0, (0, 1)), (0, (1, 1))] + [(place, (0, 1)) for place in range(1, 400)]
        self.assertEqual(table(program, Book(store, ((1, 1),))), (tuple(places),))
        wrong = Program(store, steps[:-1] + (("tell", 1),))
        name, trace = refutation(wrong, Book(store, ((0, 0),)))
        self.assertEqual((name, trace), (0, (("step", 0),) * 399))


class IsTable(unittest.TestCase):
    def judge(self, thing, told, program=EASY, book=EASY_BOOK):
        self.assertIs(is_table(program, book, thing), told, repr(thing)[:300])

    def test_pairs_in_any_order_and_twice(self):
        chance = random.Random("orders")
        for program, book in keeping_cases():
            told = table(program, book)
            for _ in range(5):
                mixed = [list(row) + chance.choices(row, k=chance.randint(0, 3)) for row in told]
                for row in mixed:
                    chance.shuffle(row)
                self.judge(tuple(tuple(row) for row in mixed), True, program, book)
                self.judge([tuple(row) for row in mixed], False, program, book)
                self.judge(tuple(mixed), False, program, book)

    def test_more_pairs_than_needed(self):
        self.judge((EASY_TABLE[0] + ((1, (1,)),), EASY_TABLE[1]), True)
        self.judge((EASY_TABLE[0] + ((1, (1,)), (1, (0,))), EASY_TABLE[1] + ((2, (0,)),)), True)
        # The run from there would tell 1, or would not be in the table.
        self.judge((EASY_TABLE[0] + ((0, (1,)),), EASY_TABLE[1]), False)
        self.judge((EASY_TABLE[0] + ((0, (1,)), (2, (1,))), EASY_TABLE[1]), False)
        self.judge((EASY_TABLE[0] + ((2, (0,)),), EASY_TABLE[1]), False)

    def test_a_pair_too_few(self):
        for program, book in keeping_cases():
            told = table(program, book)
            for name, row in enumerate(told):
                for at in range(len(row)):
                    self.judge(with_put_in(told, name, row[:at] + row[at + 1:]), False, program, book)
                self.judge(with_put_in(told, name, ()), False, program, book)

    def test_closed_but_without_the_beginning(self):
        self.judge((((1, (0,)),), EASY_TABLE[1]), False)
        self.judge((EASY_TABLE[0], ((2, (1,)),)), False)
        self.judge((((1, (0,)), (1, (1,))), EASY_TABLE[1]), False)

    def test_each_sort_of_move_must_stay_inside(self):
        dry, dry_book = dry_case((2,))
        rows = [tuple(graph_from(dry, layout)) for layout in dry_book.layouts]
        self.judge(tuple(rows), False, dry, dry_book)
        self.judge((tuple(here for here in rows[0] if here[1] != (0,)), rows[1]), False, dry, dry_book)
        mist = Program(Store((MIST,)), (("tell", 0),))
        self.judge((((0, (0,)),),), True, mist, Book(mist.store, ((0,),)))
        looked = chain(Store((MIST,)), 2)
        book = Book(looked.store, ((0,),))
        told = table(looked, book)
        self.assertEqual(told, (tuple((place, (at,)) for place in (0, 1) for at in (0, 1, 2)),))
        for here in told[0]:
            self.judge((tuple(one for one in told[0] if one != here),), False, looked, book)

    def test_wrong_rows_and_names(self):
        first, second = EASY_TABLE
        for thing in [(), (first,), (second, first), (first, second, second), (first, second, ()), [first, second],
                      (first, first), (second, second), ((), ()), first, {0: first, 1: second}, None, "ab", (first, None),
                      (list(first), second), ((first,), second), (first, {one: 0 for one in second})]:
            self.judge(thing, False)

    def test_wrong_pairs(self):
        first, second = EASY_TABLE
        for pair in [(3, (0,)), (-1, (0,)), (True, (0,)), (False, (0,)), (None, (0,)), ("1", (0,)), (1, (2,)),
                     (1, (-1,)), (1, (False,)), (1, ()), (1, (0, 0)), (1, 0), (1, [0]), [1, (0,)], (1,), (1, (0,), 0),
                     1, None, (), "10", ((1, (0,)),), (1, ("0",)), (1, ((0,),)), (1, {}), {}, (1, None), ([], [])]:
            self.judge((first + (pair,), second), False)
            self.judge(((pair,) + first, second), False)
            self.judge((first, second + (pair,)), False)
        self.judge((first + ((1, (0,)),), second), True)

    def test_other_objects(self):
        first, second = EASY_TABLE
        for thing in odd_things():
            for told in [thing, (thing, second), (first + (thing,), second), (first + ((thing, (0,)),), second),
                         (first + ((1, thing),), second), (first + ((1, (thing,)),), second)]:
                # By their texts: 0 alone, in a tuple, is a layout.
                self.judge(told, repr(told) == repr((first + ((1, (0,)),), second)))

    def test_programs_that_do_not_keep_their_book_have_none(self):
        for program, book in some_cases(60, "no table"):
            if table(program, book) is None:
                self.judge(tuple(tuple(graph_from(program, layout)) for layout in book.layouts), False, program, book)

    def test_what_is_handed_in_stays(self):
        thing = (EASY_TABLE[0], [((0, [1]),)])
        before = copy.deepcopy(thing)
        is_table(EASY, EASY_BOOK, thing)
        is_refutation(EASY, EASY_BOOK, thing)
        self.assertEqual(thing, before)


class IsRefutation(unittest.TestCase):
    def judge(self, thing, told, program=SHORT, book=BOTH):
        self.assertIs(is_refutation(program, book, thing), told, repr(thing)[:300])

    def test_example(self):
        self.judge((1, (("spoilt", 0), ("step", 0))), True)

    def test_other_right_ones(self):
        for trace in [(("spoilt", 0), ("spoilt", 0), ("step", 0)), (("cut",), ("spoilt", 0), ("cut",), ("step", 0)),
                      (("cut",),) * 3000 + (("spoilt", 0), ("step", 0))]:
            self.judge((1, trace), True)
            self.judge((0, trace), False)
            self.judge((1, trace + (("cut",),)), False)

    def test_by_chance(self):
        chance = random.Random("refutations")
        found = set()
        for program, book in CASES:
            for name, layout in enumerate(book.layouts):
                trace, (place, _) = chance_trace(chance, program, layout, 8)
                told = program.steps[place][0] == "tell" and program.steps[place][1] != name
                self.judge((name, trace), told, program, book)
                self.judge([name, trace], False, program, book)
                self.judge((name, list(trace)), False, program, book)
                found.add(told)
        self.assertEqual(found, {True, False})

    def test_the_one_that_is_as_short_as_possible_against_a_search(self):
        for program, book in CASES[:60]:
            for name, layout in enumerate(book.layouts):
                if wrong_tells(program, [(0, layout)], name):
                    self.judge((name, ()), True, program, book)
                elif not wrong_tells(program, fewest_cuts(program, layout), name):
                    self.judge((name, ()), False, program, book)

    def test_wrong_ones(self):
        right = (("spoilt", 0), ("step", 0))
        for thing in [(0, right), (2, right), (-1, right), (True, right), (False, right), (None, right), ("1", right),
                      ((1,), right), (10 ** 59, right), (1, ()), (1, right[:1]), (1, right[1:]), (1, right[::-1]),
                      (1, right + right), (1, (("cut",),) + right[1:]), (1, (("spoilt", False), ("step", 0))),
                      (1, (("spoilt", 0), ("step", False))), (1, (["spoilt", 0], ("step", 0))), (1, list(right)),
                      [1, right], (1,), (1, right, 0), (right, 1), right, (1, (right,)), {1: right}, None, (1, None),
                      (1, (("spoilt", 0), ("step", 1))), (1, right + (None,)), (1, (None,) + right), "1s"]:
            self.judge(thing, False)

    def test_a_tell_of_the_name_itself_is_none(self):
        self.judge((1, (("step", 0),)), False)
        self.judge((0, (("step", 0),)), False)
        self.judge((1, (("step", 0),)), True, Program(SHORT.store, SHORT.steps[:2] + (("tell", 2),)))

    def test_programs_that_keep_their_book_have_none(self):
        chance = random.Random("kept")
        for program, book in keeping_cases():
            for name, layout in enumerate(book.layouts):
                for _ in range(10):
                    self.judge((name, chance_trace(chance, program, layout, 8)[0]), False, program, book)

    def test_other_objects(self):
        right = (("spoilt", 0), ("step", 0))
        for thing in odd_things():
            for told in [thing, (thing, right), (1, thing), (1, (thing,) + right), (1, right + (thing,)),
                         (1, (("spoilt", thing), ("step", 0))), (1, ((thing, 0), ("step", 0)))]:
                self.judge(told, False)


if __name__ == "__main__":
    unittest.main()
