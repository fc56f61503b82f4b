"""12.1: cells that lie, and the eighth fact; example e11."""

import itertools
import random
import unittest

from lookspoil.errors import NoNumber, OtherStore
from lookspoil.kinds import Kind
from lookspoil.lying import lie_reader, lies_borne, tells_with_lies
from lookspoil.programs import Program, has_puts
from lookspoil.readers import bears, most_looks, reader
from lookspoil.stores import Book, Store
from tests.samples import CORE, LATE, LONE, MIST, SLIP, STILL, WHEEL, all_pairs, greatest_looks, odd_things
from tests.worlds import (
    BOTH, OTHERS, PAIR, SHORT, THREE, bears_found, chance_layout, chance_program, chance_store, chain,
    kept_books, layouts_coming, mixed_cases, put_kinds, ring_kind, with_put_in)


def lied_to(program, layouts, liars):
    """The places to which traces without cuts from some of layouts lead, if just the cells of liars lie."""
    seen, waiting = set(), [(0, layout) for layout in layouts]
    while waiting:
        here = waiting.pop()
        if here in seen:
            continue
        seen.add(here)
        place, layout = here
        for cell, kind in enumerate(program.store.kinds):
            for goal in kind.drifts[layout[cell]] if cell not in liars else ():
                waiting.append((place, with_put_in(layout, cell, goal)))
        step = program.steps[place]
        if step[0] == "look":
            _, cell, goals = step
            kind = program.store.kinds[cell]
            if cell in liars:
                waiting += [(goal, layout) for _, goal in goals]
            else:
                waiting += [
                    (dict(goals)[answer], with_put_in(layout, cell, goal)) for answer, goal in kind.looks[layout[cell]]]
    return {place for place, _ in seen}


def lies_found(program, book, many):
    """What tells_with_lies must tell, by a search over all lots of cells that lie."""
    if any(step[0] == "put" for step in program.steps):
        return False
    cells = range(len(book.store.kinds))
    for liars in itertools.chain(*[itertools.combinations(cells, count) for count in range(many + 1)]):
        for name in range(len(book.layouts)):
            for place in lied_to(program, layouts_coming(book, name), liars):
                if program.steps[place][0] == "tell" and program.steps[place][1] != name:
                    return False
    return True


def cells_found(book, one, two):
    """In how many cells two names are apart, by a search."""
    return len([
        kind for kind, u, v in zip(book.store.kinds, book.layouts[one], book.layouts[two])
        if greatest_looks(kind, all_pairs(kind, u, v)) is not None])


def borne_found(book):
    """What lies_borne must tell."""
    names = range(len(book.layouts))
    fewest = [cells_found(book, one, two) for one, two in itertools.combinations(names, 2)]
    if not fewest:
        return 2
    return max(many for many in (-1, 0, 1, 2) if all(2 * many + 1 <= cells for cells in fewest))


def wide_books(many, seed):
    """Books of three to five small cells, many of them apart in several ones."""
    chance = random.Random(seed)
    kinds = [STILL, STILL, STILL, WHEEL, CORE, THREE, THREE]
    kinds += [ring_kind(chance, rings, answers, noise, drifts) for rings, answers, noise, drifts in [
        ((1, 1), 3, 0.4, 0), ((2, 1), 3, 0, 0), ((1, 1), 5, 0.5, 0.5), ((1, 2), 6, 0.3, 0.3), ((1, 1, 1), 4, 0, 0.4)]]
    made = []
    for at in range(many):
        if at % 3:
            store = Store(tuple(chance.choice(kinds) for _ in range(chance.randint(3, 5))))
        else:
            store = Store(tuple(chance.choice((STILL, THREE, THREE)) for _ in range(chance.randint(4, 5))))
        names = chance.choice((1, 2, 2, 2, 3, 3, 4))
        layouts = [chance_layout(chance, store) for _ in range(names)]
        if at % 6 == 0:
            layouts = [tuple(name % kind.size for kind in store.kinds) for name in range(min(3, names))]
        made.append(Book(store, tuple(layouts)))
    return made


def five(*layouts):
    return Book(Store((STILL,) * len(layouts[0])), layouts)


WIDE = wide_books(150, "wide")
FIVE = five((0,) * 5, (1,) * 5)
# Looks at all cells, telling by the majority.
MOST = Program(Store((STILL,) * 3), (
    ("look", 0, ((0, 1), (1, 2))), ("look", 1, ((0, 4), (1, 3))), ("look", 1, ((0, 3), (1, 5))),
    ("look", 2, ((0, 4), (1, 5))), ("tell", 0), ("tell", 1)))
TRIPLE = five((0, 0, 0), (1, 1, 1))


class TellsWithLies(unittest.TestCase):
    def test_examples(self):
        self.assertEqual([tells_with_lies(MOST, TRIPLE, many) for many in range(6)], [True, True] + [False] * 4)
        self.assertIs(tells_with_lies(MOST, five((0, 0, 1), (1, 1, 1)), 0), True)
        self.assertIs(tells_with_lies(MOST, five((0, 0, 1), (1, 1, 1)), 1), False)
        self.assertIs(tells_with_lies(MOST, five((1, 1, 1), (0, 0, 0)), 0), False)
        first = Program(TRIPLE.store, (("look", 0, ((0, 1), (1, 2))), ("tell", 0), ("tell", 1)))
        self.assertEqual([tells_with_lies(first, TRIPLE, many) for many in range(6)], [True] + [False] * 5)

    def test_one_tell_for_one_name(self):
        for book in [Book(Store((CORE, MIST)), ((1, 2),)), Book(PAIR, ((0, 0),))]:
            for many in range(6):
                self.assertIs(tells_with_lies(Program(book.store, (("tell", 0),)), book, many), True)
                self.assertIs(tells_with_lies(Program(book.store, (("tell", 1),)), book, many), False)
                self.assertIs(tells_with_lies(chain(book.store, 50), book, many), True)

    def test_a_cell_that_lies_gives_all_answers_that_its_kind_can_give(self):
        # From 0 and 1 a look never answers 2; a cell that lies there does.
        kind = Kind((((0, 1),), ((1, 0),), ((2, 2),)), ((), (), ()), ())
        book = Book(Store((kind,)), ((0,),))
        steps = (("look", 0, ((0, 1), (1, 1), (2, 2))), ("tell", 0), ("tell", 3))
        self.assertEqual([tells_with_lies(Program(book.store, steps), book, many) for many in range(3)],
                         [True, False, False])

    def test_a_cell_that_lies_answers_each_look_apart(self):
        steps = (("look", 0, ((0, 1), (1, 2))), ("look", 0, ((0, 2), (1, 3))), ("tell", 0), ("tell", 1))
        book = Book(Store((STILL,)), ((0,),))
        self.assertEqual([tells_with_lies(Program(book.store, steps), book, many) for many in (0, 1)], [True, False])

    def test_no_more_cells_lie_than_there_are(self):
        steps = (("look", 0, ((0, 1), (1, 2))), ("tell", 0), ("tell", 1))
        book = Book(Store((STILL,)), ((0,), (1,)))
        self.assertEqual([tells_with_lies(Program(book.store, steps), book, many) for many in range(6)],
                         [True] + [False] * 5)
        lone = Book(Store((LONE,)), ((0,),))
        for many in range(6):
            self.assertIs(tells_with_lies(Program(lone.store, (("look", 0, ((4, 1),)), ("tell", 0))), lone, many), True)

    def test_against_a_search(self):
        found = {many: [] for many in range(6)}
        for program, book in mixed_cases(100, "lies"):
            for many in range(6):
                found[many].append(lies_found(program, book, many))
                self.assertIs(tells_with_lies(program, book, many), found[many][-1])
        for many in range(6):
            self.assertTrue(found[many].count(True) > 20 and found[many].count(False) > 100)

    def test_changed_readers_against_a_search(self):
        chance = random.Random("changed lies")
        found = []
        for book in WIDE:
            for many in range(max(0, lies_borne(book)) + 1):
                made = lie_reader(book, many)
                if made is None or len(made.steps) > 80:
                    continue
                at = chance.randrange(len(made.steps))
                step = made.steps[at]
                if step[0] == "look":
                    goals = tuple((answer, chance.randrange(at + 1, len(made.steps))) for answer, _ in step[2])
                    step = ("look", step[1], goals)
                else:
                    step = ("tell", (step[1] + 1) % 2)
                other = Program(made.store, with_put_in(made.steps, at, step))
                for lies in (many, min(many + 1, 5)):
                    for program in (made, other):
                        found.append(lies_found(program, book, lies))
                        self.assertIs(tells_with_lies(program, book, lies), found[-1])
        self.assertTrue(found.count(True) > 20 and found.count(False) > 50, (len(found), found.count(True)))

    def test_without_lies_it_is_what_bears_tells(self):
        found = []
        for program, book in mixed_cases(120, "no lies"):
            found.append(bears(program, book))
            self.assertIs(tells_with_lies(program, book, 0), found[-1])
        for book in kept_books(30, "no lies"):
            self.assertIs(tells_with_lies(reader(book), book, 0), True)
        self.assertTrue(found.count(True) > 20 and found.count(False) > 50)

    def test_fewer_lies_are_borne_as_well(self):
        for book in WIDE[:40]:
            made = reader(book)
            if made is not None:
                told = [tells_with_lies(made, book, many) for many in range(6)]
                self.assertEqual(told, sorted(told, reverse=True))

    def test_a_program_with_a_put_tells_nothing_with_lies(self):
        chance = random.Random("lying puts")
        seen = set()
        for _ in range(40):
            store = chance_store(chance, put_kinds(20, "lying puts"))
            program = chance_program(chance, store, 8, (0,))
            book = Book(store, (chance_layout(chance, store),))
            for many in range(6):
                self.assertIs(tells_with_lies(program, book, many), not has_puts(program))
            seen.add(has_puts(program))
        self.assertEqual(seen, {False, True})
        dead = Program(PAIR, (("tell", 0), ("put", 0, 0, 2), ("tell", 0)))
        self.assertIs(tells_with_lies(dead, Book(PAIR, ((0, 0),)), 1), False)

    def test_errors(self):
        for other in OTHERS:
            for many in (0, 1, 5, 6, -1, None, True):
                with self.assertRaises(OtherStore):
                    tells_with_lies(SHORT, other, many)
        for many in [-1, 6, 10 ** 59, -(10 ** 59), True, False, None, "1", b"1", (1,), [1], 64] + odd_things():
            with self.assertRaises(NoNumber, msg=repr(many)[:200]):
                tells_with_lies(SHORT, BOTH, many)
            with self.assertRaises(NoNumber):
                tells_with_lies(Program(PAIR, (("put", 0, 0, 1), ("tell", 0))), Book(PAIR, ((0, 0),)), many)


class LiesBorne(unittest.TestCase):
    def test_e11(self):
        self.assertEqual(lies_borne(TRIPLE), 1)

    def test_by_the_number_of_cells(self):
        told = []
        for cells in range(6):
            layout = tuple(1 if cell < cells else 0 for cell in range(5))
            told.append(lies_borne(five((0,) * 5, layout)))
        self.assertEqual(told, [-1, 0, 0, 1, 1, 2])
        self.assertEqual([lies_borne(five((0,) * many, (1,) * many)) for many in range(1, 6)], [0, 0, 1, 1, 2])

    def test_the_two_names_that_are_apart_in_the_fewest_cells_count(self):
        self.assertEqual(lies_borne(five((0,) * 5, (1,) * 5, (1, 1, 1, 1, 0))), 0)
        self.assertEqual(lies_borne(five((0,) * 5, (1, 1, 1, 0, 0), (0, 0, 1, 1, 1))), 1)
        self.assertEqual(lies_borne(five((0,) * 5, (1,) * 5, (0,) * 5)), -1)

    def test_one_name(self):
        for book in [five((0,)), five((1,) * 5), Book(PAIR, ((2, 0),)), Book(Store((LONE,)), ((0,),))]:
            self.assertEqual(lies_borne(book), 2)

    def test_cells_that_are_alike_do_not_count(self):
        store = Store((STILL, CORE, STILL, WHEEL, STILL))
        self.assertEqual(lies_borne(Book(store, ((0, 0, 0, 0, 0), (1, 1, 1, 1, 1)))), 1)
        self.assertEqual(lies_borne(Book(store, ((0, 0, 0, 0, 0), (1, 1, 1, 1, 0)))), 0)
        self.assertEqual(lies_borne(Book(store, ((0, 0, 0, 0, 0), (0, 1, 0, 1, 0)))), -1)

    def test_against_a_search(self):
        seen = set()
        for book in WIDE + kept_books(30, "borne lies"):
            seen.add((lies_borne(book), len(book.layouts) > 1))
            self.assertEqual(lies_borne(book), borne_found(book))
        self.assertEqual(seen, {(-1, True), (0, True), (1, True), (2, True), (2, False)})


class LieReader(unittest.TestCase):
    def check(self, book, many):
        made = lie_reader(book, many)
        self.assertIs(type(made), Program)
        self.assertTrue(made.store == book.store)
        self.assertIs(has_puts(made), False)
        self.assertIs(tells_with_lies(made, book, many), True)
        self.assertTrue(made == lie_reader(book, many))
        if len(made.steps) <= 400:
            self.assertTrue(made == Program(made.store, made.steps))
        return made

    def test_the_eighth_fact(self):
        seen = set()
        for book in WIDE + kept_books(30, "eighth"):
            for many in range(6):
                there = many <= lies_borne(book) or len(book.layouts) == 1
                seen.add((many, there))
                if there:
                    self.check(book, many)
                else:
                    self.assertIsNone(lie_reader(book, many))
        self.assertEqual(seen, {(many, there) for many in range(6) for there in (False, True)})

    def test_by_a_search(self):
        seen = set()
        for book in WIDE:
            for many in range(max(0, lies_borne(book)) + 1):
                made = lie_reader(book, many)
                if made is not None and len(made.steps) <= 120:
                    self.assertTrue(lies_found(made, book, many))
                    seen.add((many, len(book.layouts)))
        self.assertTrue({(0, 3), (0, 4), (1, 2), (1, 3), (2, 2)} <= seen, seen)

    def test_without_lies_it_bears_the_book(self):
        for book in kept_books(30, "bears lies"):
            made = self.check(book, 0)
            self.assertIs(bears(made, book), True)
            if len(made.steps) < 60:
                self.assertTrue(bears_found(made, book))

    def test_two_lies_among_five_cells(self):
        made = self.check(FIVE, 2)
        self.assertTrue(lies_found(made, FIVE, 2))
        self.assertIs(tells_with_lies(made, FIVE, 3), False)
        self.assertLessEqual(most_looks(made), 5)
        self.check(five((0,) * 5, (1,) * 5), 1)

    def test_cells_that_need_many_looks(self):
        book = Book(Store((LATE, SLIP, LATE)), ((0, 0, 3), (3, 2, 0)))
        self.assertEqual(lies_borne(book), borne_found(book))
        slow = Kind((((0, 1),), ((0, 2),), ((0, 3),), ((1, 3),), ((0, 4),)), ((),) * 5, ())
        slow = Book(Store((slow,) * 3), ((0, 0, 0), (4, 4, 4)))
        self.assertTrue(lies_found(self.check(slow, 1), slow, 1))

    def test_codes_of_many_names(self):
        # Each two of these differ in three cells or more.
        code = Book(Store((THREE,) * 4), ((0, 0, 0, 0), (0, 1, 1, 1), (0, 2, 2, 2), (1, 0, 1, 2), (1, 1, 2, 0),
                                         (1, 2, 0, 1), (2, 0, 2, 1), (2, 1, 0, 2), (2, 2, 1, 0)))
        self.assertEqual(lies_borne(code), 1)
        self.check(code, 1)
        self.assertIsNone(lie_reader(code, 2))

    def test_one_name_with_any_lies(self):
        for many in range(6):
            made = self.check(Book(Store((CORE, MIST)), ((1, 2),)), many)
            self.assertEqual(made.steps[0], ("tell", 0))

    def test_no_number(self):
        for many in [-1, 6, 10 ** 59, True, False, None, "1", (1,), [1]] + odd_things():
            for book in (BOTH, TRIPLE, five((0,))):
                with self.assertRaises(NoNumber, msg=repr(many)[:200]):
                    lie_reader(book, many)


if __name__ == "__main__":
    unittest.main()
