"""8.2 and 8.3: cuts_borne, meeting, gap_needed and dead_places; example e07."""

import itertools
import unittest

from lookspoil.borne import cuts_borne, dead_places, gap_needed, meeting
from lookspoil.errors import NoName, OtherStore
from lookspoil.judging import table
from lookspoil.kinds import Kind
from lookspoil.programs import Program
from lookspoil.stores import Book, Store
from tests.samples import CORE, MIST, STILL, odd_things, one_by_one
from tests.worlds import (
    BOTH, OTHERS, SHORT, TORN, all_moves, behind, chain, cuts_of_worst, dry_case, fewest_cuts, gap_case, graph_from,
    is_cutting, keeping_cases, mixed_cases, pairs_of_names)

CASES = mixed_cases(120, "borne")


def meeting_found(program, book, one, two):
    """What meeting must tell, by a search."""
    first, second = [{}, {}]
    for name, places in [(one, first), (two, second)]:
        for (place, _), cuts in fewest_cuts(program, book.layouts[name]).items():
            if program.steps[place][0] == "tell":
                places[place] = min(cuts, places.get(place, cuts))
    return min([max(first[place], second[place]) for place in first if place in second], default=None)


def refuted_with(program, book, gap):
    """Whether some refutation has its cuts at least gap steps one behind the other.

    Each pair (place, layout) is searched with all numbers of steps since the
    last cut, None where none was.
    """
    for name, layout in enumerate(book.layouts):
        seen, waiting = set(), [(0, layout, None)]
        while waiting:
            here = waiting.pop()
            if here in seen:
                continue
            seen.add(here)
            place, now, steps = here
            if program.steps[place][0] == "tell" and program.steps[place][1] != name:
                return True
            for move in all_moves(program, place, now):
                goal = behind(program, place, now, move)
                if not is_cutting(move):
                    since = steps if steps is None or move[0] != "step" else steps + 1
                    waiting.append((*goal, since))
                elif steps is None or steps >= gap:
                    waiting.append((*goal, 0))
    return False


def gap_found(program, book):
    """What gap_needed must tell, by a search."""
    worst = cuts_of_worst(program, book)
    if worst is None:
        return 0
    if worst < 2:
        return None
    return next(gap for gap in range(len(program.steps) + 1) if not refuted_with(program, book, gap))


class CutsBorne(unittest.TestCase):
    def test_example(self):
        self.assertEqual(cuts_borne(SHORT, BOTH), 0)

    def test_against_a_search(self):
        found = set()
        for program, book in CASES:
            worst = cuts_of_worst(program, book)
            told = cuts_borne(program, book)
            self.assertEqual(told, None if worst is None else worst - 1)
            found.add(told)
        self.assertTrue({None, -1, 0, 1, 2, 3} <= found, found)

    def test_cells_that_dry(self):
        for lengths in [(1,), (4,), (7,), (2, 1), (1, 2), (3, 3), (1, 1, 1, 1), (2, 2, 2)]:
            self.assertEqual(cuts_borne(*dry_case(lengths)), sum(lengths) - 1)

    def test_programs_that_keep_their_book(self):
        for program, book in keeping_cases():
            self.assertIsNone(cuts_borne(program, book))
            self.assertIsNotNone(table(program, book))

    def test_the_worst_name_counts_wherever_it_stands(self):
        program, book = dry_case((3,))
        for layouts in [((3,), (0,)), ((2,), (0,)), ((1,), (0,))]:
            self.assertEqual(cuts_borne(program, Book(book.store, layouts)), layouts[0][0] - 1)
        self.assertEqual(cuts_borne(program, Book(book.store, ((3,), (0,), (0,)))), -1)
        self.assertEqual(cuts_borne(program, Book(book.store, ((0,), (0,)))), -1)

    def test_torn_puts_are_cuts_and_drifts_are_none(self):
        goals = ((0, 2), (1, 2), (2, 1), (3, 1))
        torn = Program(Store((TORN,)), (("look", 0, goals), ("tell", 1), ("put", 0, 0, 3), ("tell", 0)))
        self.assertEqual(cuts_borne(torn, Book(torn.store, ((0,),))), 0)
        self.assertEqual(cuts_borne(torn, Book(torn.store, ((1,),))), -1)
        mist = Program(Store((MIST,)), (("look", 0, ((0, 1), (1, 1), (2, 2), (3, 1))), ("tell", 0), ("tell", 1)))
        self.assertEqual(cuts_borne(mist, Book(mist.store, ((0,),))), -1)

    def test_other_stores(self):
        for other in OTHERS:
            with self.assertRaises(OtherStore):
                cuts_borne(SHORT, other)


class Meeting(unittest.TestCase):
    def test_example(self):
        self.assertEqual(meeting(SHORT, BOTH, 0, 1), 1)
        self.assertEqual(meeting(SHORT, BOTH, 1, 0), 1)

    def test_one_name_twice(self):
        for program, book in CASES:
            for name in range(len(book.layouts)):
                self.assertEqual(meeting(program, book, name, name), 0)

    def test_against_a_search(self):
        found = set()
        for program, book in CASES:
            for one, two in pairs_of_names(book):
                told = meeting(program, book, one, two)
                self.assertEqual(told, meeting_found(program, book, one, two))
                found.add(told)
        self.assertTrue({None, 0, 1, 2, 3} <= found, found)

    def test_the_greater_number_of_cuts_of_both_counts(self):
        # Both worlds can come to the tell of 0 and to that of 1, with unlike numbers of cuts.
        program, book = dry_case((5,))
        both = Book(book.store, ((5,), (3,), (0,)))
        for one, two, told in [(0, 1, 0), (0, 2, 5), (2, 0, 5), (1, 2, 3), (2, 2, 0)]:
            self.assertEqual(meeting(program, both, one, two), told)

    def test_one_and_the_same_place_not_only_the_same_name(self):
        still = Program(Store((STILL,)), (("look", 0, ((0, 1), (1, 2))), ("tell", 0), ("tell", 0)))
        book = Book(still.store, ((0,), (1,)))
        self.assertIsNone(meeting(still, book, 0, 1))
        same = Program(still.store, (("look", 0, ((0, 1), (1, 1))), ("tell", 5)))
        self.assertEqual(meeting(same, book, 0, 1), 0)

    def test_no_name_for_either_behind_other_store(self):
        for thing in [2, -1, True, False, None, "0", (0,), 10 ** 59] + odd_things():
            for one, two in [(thing, 0), (0, thing), (thing, thing)]:
                with self.assertRaises(NoName):
                    meeting(SHORT, BOTH, one, two)
                for other in OTHERS:
                    with self.assertRaises(OtherStore):
                        meeting(SHORT, other, one, two)
        for other in OTHERS:
            with self.assertRaises(OtherStore):
                meeting(SHORT, other, 0, 0)


class GapNeeded(unittest.TestCase):
    def test_example(self):
        self.assertIsNone(gap_needed(SHORT, BOTH))

    def test_against_a_search(self):
        found = set()
        for program, book in CASES:
            told = gap_needed(program, book)
            self.assertEqual(told, gap_found(program, book))
            found.add(told)
        self.assertTrue({None, 0, 1, 2, 3} <= found, found)

    def test_looks_and_puts_that_lie_between(self):
        for word in ("look", "put"):
            for ahead, between in itertools.product(range(4), repeat=2):
                program, book = gap_case(ahead, between, word)
                self.assertEqual(cuts_borne(program, book), 1)
                self.assertEqual(gap_needed(program, book), ahead + between + 2)
            self.assertEqual(gap_needed(*gap_case(190, 180, word)), 372)

    def test_no_refutation(self):
        for program, book in keeping_cases():
            self.assertEqual(gap_needed(program, book), 0)

    def test_at_most_one_cut(self):
        self.assertIsNone(gap_needed(Program(SHORT.store, (("tell", 0),)), BOTH))
        self.assertIsNone(gap_needed(*dry_case((1,))))
        self.assertEqual(gap_needed(*dry_case((2,))), 1)

    def test_drifts_are_no_steps(self):
        program, book = gap_case(1, 0)
        drifting = Store((Kind(STILL.looks, ((1,), (0,)), ()), *program.store.kinds[1:]))
        self.assertEqual(gap_needed(Program(drifting, program.steps), Book(drifting, book.layouts)), 3)

    def test_other_stores(self):
        for other in OTHERS:
            with self.assertRaises(OtherStore):
                gap_needed(SHORT, other)


class DeadPlaces(unittest.TestCase):
    def test_example(self):
        self.assertEqual(dead_places(SHORT, BOTH), [])
        self.assertEqual(dead_places(SHORT, Book(SHORT.store, ((0,),))), [2])
        self.assertEqual(dead_places(SHORT, Book(SHORT.store, ((1,),))), [])

    def test_against_a_search(self):
        many = set()
        for program, book in CASES:
            reached = {place for layout in book.layouts for place, _ in graph_from(program, layout)}
            told = dead_places(program, book)
            self.assertEqual(set(told), set(range(len(program.steps))) - reached)
            self.assertTrue(type(told) is list and one_by_one(told))
            many.add(len(told))
        self.assertTrue({0, 1, 2, 3} <= many, many)

    def test_a_new_list_each_time(self):
        book = Book(SHORT.store, ((0,),))
        dead_places(SHORT, book).append(0)
        self.assertEqual(dead_places(SHORT, book), [2])

    def test_other_stores(self):
        for other in OTHERS:
            with self.assertRaises(OtherStore):
                dead_places(SHORT, other)


class LongPrograms(unittest.TestCase):
    def test_four_hundred_steps(self):
        store = Store((CORE, STILL))
        program = chain(store, 400)
        book = Book(store, ((1, 0), (0, 1)))
        self.assertEqual(cuts_borne(program, book), -1)
        self.assertIsNone(cuts_borne(program, Book(store, ((1, 0),))))
        self.assertEqual(meeting(program, book, 0, 1), 0)
        self.assertEqual(gap_needed(program, Book(store, ((1, 0),))), 0)
        self.assertEqual(dead_places(program, book), [])


if __name__ == "__main__":
    unittest.main()
