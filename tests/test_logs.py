"""15.1 to 15.3: logs, next_looks, clearing and the eleventh fact, entries_of; example e13."""

import itertools
import random
import unittest

from lookspoil.books import kept
from lookspoil.errors import NoLayout, NoLog, NoName, NoTrace, TooLarge
from lookspoil.greatest import greatest_book
from lookspoil.kinds import Kind
from lookspoil.logs import clearing, entries_of, layouts_behind, names_in, next_looks
from lookspoil.programs import Program
from lookspoil.quick import least_price
from lookspoil.stores import Book, Store
from lookspoil.traces import follow
from tests.samples import (
    CORE, EVEN, FIVE, FOG, GEARS, LATE, LONE, MIST, SLIP, STEEP, STILL, WHEEL, greatest_looks, odd_things, one_by_one,
    some_kinds)
from tests.worlds import (
    BOTH, PAIR, SHORT, THREE, TORN, answers_of_cell, chance_layout, chance_trace, dry_case, drifted, kept_books, looked,
    mixed_cases, put_kinds, ring_kind)


def lost(store, worlds):
    """The worlds to which any looks and drifts lead."""
    while True:
        more = worlds
        for cell in range(len(store.kinds)):
            more = more.union(*looked(store, more, cell))
        if more == worlds:
            return worlds
        worlds = more


def seen(store, worlds, cell, answer):
    """The worlds behind a look at the cell that answers so."""
    behind = {
        (name, layout[:cell] + (goal,) + layout[cell + 1:]) for name, layout in worlds
        for told, goal in store.kinds[cell].looks[layout[cell]] if told == answer}
    return drifted(store, behind)


def worlds_behind(book, log):
    """All pairs of a name and a layout that can be behind the log."""
    worlds = drifted(book.store, list(enumerate(book.layouts)))
    for entry in log:
        worlds = lost(book.store, worlds) if entry[0] == "lost" else seen(book.store, worlds, entry[1], entry[2])
    return worlds


def names_of(worlds):
    return sorted({name for name, _ in worlds})


def next_found(book, worlds):
    """What next_looks must tell."""
    many = len(names_of(worlds))
    return [
        cell for cell in range(len(book.store.kinds))
        if any(0 < len(names_of(left)) < many for left in looked(book.store, worlds, cell))]


def clearing_found(book, begin):
    """What clearing must tell: over all sets of worlds, the number is made less until nothing changes."""
    graph, waiting = {}, [begin]
    while waiting:
        worlds = waiting.pop()
        if worlds not in graph:
            graph[worlds] = []
            if len(names_of(worlds)) > 1:
                graph[worlds] = [looked(book.store, worlds, cell) for cell in range(len(book.store.kinds))]
            waiting += [left for behind in graph[worlds] for left in behind]
    best = {worlds: 0 for worlds in graph if not graph[worlds]}
    while True:
        before = dict(best)
        for worlds in graph:
            for behind in graph[worlds]:
                if all(left in best for left in behind):
                    best[worlds] = min(best.get(worlds, 10 ** 9), 1 + max(best[left] for left in behind))
        if before == best:
            return best.get(begin)


def endless(book, log):
    """Whether two names can answer alike for ever in each cell, as the log leaves them."""
    worlds = worlds_behind(book, log)
    for one, two in itertools.combinations(names_of(worlds), 2):
        pairs = [
            {(layout[cell], other[cell]) for name, layout in worlds for again, other in worlds
             if (name, again) == (one, two)} for cell in range(len(book.store.kinds))]
        if all(any(greatest_looks(kind, {pair}) is None for pair in cell)
               for kind, cell in zip(book.store.kinds, pairs)):
            return True
    return False


def chance_log(chance, book, many):
    """A log that can come, now and then with an entry by chance."""
    log, worlds = [], worlds_behind(book, ())
    for _ in range(many):
        cell = chance.randrange(len(book.store.kinds))
        if chance.random() < 0.15:
            log.append(("lost",))
            worlds = lost(book.store, worlds)
            continue
        answers = answers_of_cell(book.store.kinds[cell])
        _, layout = chance.choice(sorted(worlds)) if worlds else (0, book.layouts[0])
        told = [answer for answer, _ in book.store.kinds[cell].looks[layout[cell]]]
        answer = chance.choice(answers if chance.random() < 0.1 else told)
        log.append(("seen", cell, answer))
        worlds = seen(book.store, worlds, cell, answer)
    return chance.choice((tuple, list))(log)


def some_books(many, seed, size=40, names=5):
    """Books of all sorts, kept or not."""
    chance = random.Random(seed)
    kinds = [CORE, STILL, STILL, WHEEL, LATE, SLIP, FOG, MIST, LONE, THREE, TORN, FIVE, GEARS, STEEP]
    kinds += some_kinds(20, seed, sizes=(2, 3, 4), answers=3, drifts=1) + put_kinds(8, seed)
    kinds += [ring_kind(chance, rings, 3, 0.3, 0.2) for rings in [(1, 1), (2, 1), (2, 2), (1, 1, 1)]]
    made = []
    while len(made) < many:
        store = Store(tuple(chance.choice(kinds) for _ in range(chance.randint(1, 3))))
        if len(list(itertools.product(*[range(kind.size) for kind in store.kinds]))) <= size:
            made.append(Book(store, tuple(chance_layout(chance, store) for _ in range(chance.randint(1, names)))))
    return made


def some_cases(many, seed, lengths=(0, 1, 2, 3, 5, 8, 40), **more):
    chance = random.Random(seed)
    return [(book, chance_log(chance, book, chance.choice(lengths))) for book in some_books(many, seed, **more)]


CASES = some_cases(250, "logs")
# Drifts are needed ahead of, between and behind entries: only 1 answers 6, only 2 answers 7; 0 drifts to 1, 1 to 2.
SLIPS = Book(Store((SLIP, STILL)), ((0, 0), (1, 1), (2, 0)))
WRONG_LOGS = [
    None, True, False, 0, 1, -1, 10 ** 59, "", "lost", "seen", b"lost", {}, {0: ("lost",)}, range(0), range(3), (None,),
    ["lost"], ("lost",), ("seen", 0, 0), [["lost"]], [("lost", 0)], [("lost", ())], [("seen",)], [("seen", 0)],
    [("seen", 0, 0, 0)], [["seen", 0, 0]], [("seen", 2, 0)], [("seen", -1, 0)], [("seen", 0, 10)], [("seen", 0, -1)],
    [("seen", True, 0)], [("seen", 0, True)], [("seen", 0, False)], [("seen", False, 0)], [("seen", 0, "0")],
    [("seen", "0", 0)], [("seen", None, 0)], [("seen", 0, None)], [("seen", 0, (0,))], [("seen", 0, 10 ** 59)],
    [("seen", 10 ** 59, 0)], [("look", 0, 0)], [("Lost",)], [("cut",)], [("seen ", 0, 0)], [(b"seen", 0, 0)],
    [(b"lost",)], [("",)], [()], [[]], [{}], [0], [None], [True], [("lost",), None], [("lost",), ("seen", 0)],
    (("lost",),) * 41, [("seen", 0, 0)] * 41, [("lost",)] * 10000, iter([("lost",)]), iter(()), (x for x in ()),
    {("lost",): 0}, [(("lost",),)], [(0, "seen", 0)], [("seen", [0], 0)], [("seen", 0, {})], [("step", 0)],
    [("lost", None)]]


def wrong_logs():
    odd = [thing for thing in odd_things() if not (isinstance(thing, (list, tuple)) and len(thing) == 0)]
    return (WRONG_LOGS + odd + [[thing] for thing in odd_things()] + [[("lost",), (thing,)] for thing in odd_things()]
            + [[("seen", thing, 0)] for thing in odd_things()] + [[("seen", 0, thing)] for thing in odd_things()]
            + [[(thing, 0, 0)] for thing in odd_things()])


class Names(unittest.TestCase):
    def test_e13(self):
        self.assertEqual(names_in(BOTH, (("seen", 0, 1),)), [1])

    def test_examples(self):
        self.assertEqual(names_in(BOTH, ()), [0, 1])
        self.assertEqual(names_in(BOTH, []), [0, 1])
        self.assertEqual(names_in(BOTH, [("seen", 0, 0)]), [0])
        self.assertEqual(names_in(BOTH, [("lost",), ("seen", 0, 0)]), [0, 1])
        self.assertEqual(names_in(BOTH, [("lost",), ("seen", 0, 1)]), [1])
        self.assertEqual(names_in(BOTH, [("seen", 0, 1), ("seen", 0, 1)]), [])
        self.assertEqual(names_in(BOTH, [("seen", 0, 9)]), [])
        self.assertEqual(layouts_behind(BOTH, [("lost",)], 1), ([0, 1],))
        self.assertEqual(layouts_behind(BOTH, [("lost",)], 0), ([0],))
        self.assertEqual(layouts_behind(BOTH, [("seen", 0, 1)], 1), ([0],))
        self.assertIsNone(layouts_behind(BOTH, [("seen", 0, 1)], 0))
        self.assertEqual(layouts_behind(BOTH, (), 1), ([1],))

    def test_against_a_search(self):
        counts, none = set(), 0
        for book, log in CASES:
            worlds = worlds_behind(book, log)
            told = names_in(book, log)
            self.assertEqual(told, names_of(worlds))
            self.assertIs(type(told), list)
            counts.add((len(told), len(book.layouts)))
            for name in range(len(book.layouts)):
                behind = layouts_behind(book, log, name)
                layouts = [layout for other, layout in worlds if other == name]
                if not layouts:
                    none += 1
                    self.assertIsNone(behind)
                else:
                    self.assertIs(type(behind), tuple)
                    self.assertEqual(list(behind), [sorted(set(cell)) for cell in zip(*layouts)])
                    # Cells are free of one another.
                    self.assertEqual(sorted(layouts), list(itertools.product(*behind)))
        self.assertTrue({(0, 2), (1, 3), (2, 3), (3, 3), (5, 5), (1, 1)} <= counts, counts)
        self.assertGreater(none, 50)

    def test_drifts_ahead_of_between_and_behind_entries(self):
        self.assertEqual([layouts_behind(SLIPS, (), name) for name in range(3)],
                         [([0, 1, 2], [0]), ([1, 2], [1]), ([2], [0])])
        self.assertEqual(names_in(SLIPS, [("seen", 0, 6)]), [0, 1])
        self.assertEqual(layouts_behind(SLIPS, [("seen", 0, 6)], 0), ([2], [0]))
        self.assertEqual(names_in(SLIPS, [("seen", 0, 5)]), [0])
        self.assertEqual(layouts_behind(SLIPS, [("seen", 0, 5)], 0), ([0, 1, 2], [0]))
        self.assertEqual(names_in(SLIPS, [("seen", 0, 5), ("seen", 0, 6)]), [0])
        self.assertEqual(names_in(SLIPS, [("seen", 0, 7)]), [0, 1, 2])
        self.assertEqual(names_in(SLIPS, [("seen", 0, 7), ("seen", 1, 1)]), [1])
        self.assertEqual(names_in(SLIPS, [("seen", 0, 7), ("seen", 0, 6)]), [])
        # A look at one cell leaves the other one to drift.
        self.assertEqual(layouts_behind(SLIPS, [("seen", 1, 0)], 0), ([0, 1, 2], [0]))

    def test_lost_looks_and_drifts(self):
        book = Book(Store((WHEEL, CORE)), ((0, 1), (1, 1)))
        self.assertEqual(layouts_behind(book, [("lost",)], 0), ([0, 1, 2], [0, 1]))
        self.assertEqual(names_in(book, [("lost",), ("seen", 0, 1), ("seen", 1, 1)]), [0, 1])
        self.assertEqual(names_in(book, [("seen", 0, 0), ("seen", 0, 0)]), [0])
        self.assertEqual(names_in(book, [("lost",), ("seen", 0, 0), ("seen", 0, 0), ("seen", 0, 0)]), [])
        self.assertEqual(layouts_behind(book, [("seen", 1, 1), ("lost",)], 1), ([0, 1, 2], [0]))

    def test_lists_and_tuples(self):
        for book, log in CASES[:60]:
            self.assertEqual(names_in(book, list(log)), names_in(book, tuple(log)))
            self.assertEqual(next_looks(book, list(log)), next_looks(book, tuple(log)))
            self.assertEqual(layouts_behind(book, list(log), 0), layouts_behind(book, tuple(log), 0))

    def test_forty_entries(self):
        book = Book(Store((WHEEL, STILL)), ((0, 0), (1, 0), (2, 1)))
        log = [("seen", 0, 1 if at % 3 == 1 else 0) for at in range(40)]
        self.assertEqual(names_in(book, log), [1])
        self.assertEqual(layouts_behind(book, log, 1), ([2], [0]))
        self.assertEqual(names_in(book, log[:39] + [("seen", 0, 1)]), [])
        self.assertEqual(names_in(book, [("lost",)] * 40), [0, 1, 2])
        for call in (names_in, next_looks, clearing):
            with self.assertRaises(NoLog):
                call(book, log + [("lost",)])

    def test_many_names(self):
        book = greatest_book(Store((STILL,) * 5))
        self.assertEqual(names_in(book, ()), list(range(32)))
        told = names_in(book, [("seen", 4, 1), ("seen", 0, 0)])
        self.assertEqual(told, [name for name in range(32) if (book.layouts[name][4], book.layouts[name][0]) == (1, 0)])
        self.assertEqual(layouts_behind(book, (), 31), tuple([at] for at in book.layouts[31]))
        self.assertEqual(clearing(book, ()), 5)
        self.assertEqual(next_looks(book, [("seen", 2, 1)]), [0, 1, 3, 4])

    def test_no_log_ahead_of_no_name(self):
        book = Book(Store((STILL, CORE)), ((0, 0), (1, 1)))
        large = Book(Store((EVEN, EVEN, EVEN, STILL)), ((0, 0, 0, 0), (1, 1, 1, 1)))
        for log in wrong_logs():
            with self.assertRaises(NoLog, msg=repr(log)[:200]):
                names_in(book, log)
            with self.assertRaises(NoLog):
                next_looks(book, log)
            for name in (0, 2, None):
                with self.assertRaises(NoLog):
                    layouts_behind(book, log, name)
            with self.assertRaises(NoLog):
                clearing(book, log)
        for log in [[("seen", 4, 0)], [("seen", 0, 10)], None, (("lost",),) * 41]:
            with self.assertRaises(NoLog):
                clearing(large, log)

    def test_no_name(self):
        book = Book(Store((STILL, CORE)), ((0, 0), (1, 1)))
        for name in [2, -1, True, False, None, "0", (0,), [0], 10 ** 59] + odd_things():
            for log in [(), [("lost",)], [("seen", 0, 5)]]:
                with self.assertRaises(NoName, msg=repr(name)[:200]):
                    layouts_behind(book, log, name)

    def test_what_is_returned_is_new_and_what_is_passed_stays(self):
        log = [("seen", 1, 0), ("lost",)]
        before = names_in(SLIPS, log)
        names_in(SLIPS, log).clear()
        next_looks(SLIPS, log).append(7)
        for name in range(3):
            for cell in layouts_behind(SLIPS, log, name) or ():
                cell.append(9)
        self.assertEqual(log, [("seen", 1, 0), ("lost",)])
        self.assertEqual(names_in(SLIPS, log), before)
        self.assertEqual(layouts_behind(SLIPS, log, 0), ([0, 1, 2], [0]))
        same = layouts_behind(Book(Store((STILL, STILL)), ((0, 0),)), (), 0)
        self.assertIsNot(same[0], same[1])


class NextLooks(unittest.TestCase):
    def test_examples(self):
        book = Book(Store((STILL, CORE, STILL)), ((0, 0, 0), (0, 1, 1), (0, 1, 0)))
        self.assertEqual(next_looks(book, ()), [1, 2])
        self.assertEqual(next_looks(book, [("seen", 2, 1)]), [])
        self.assertEqual(next_looks(book, [("seen", 1, 1)]), [2])
        self.assertEqual(next_looks(book, [("seen", 2, 0)]), [1])
        self.assertEqual(next_looks(book, [("seen", 2, 9)]), [])
        self.assertEqual(next_looks(book, [("lost",)]), [1, 2])

    def test_an_answer_may_leave_fewer_although_others_do_not(self):
        # Both may answer 0; only 1 may answer 1.
        kind = Kind((((0, 0),), ((0, 1), (1, 1))), ((), ()), ())
        book = Book(Store((kind, CORE)), ((0, 0), (1, 0)))
        self.assertEqual(next_looks(book, ()), [0])
        # The first answers of both are the same.
        late = Book(Store((LATE, STILL)), ((0, 0), (3, 0)))
        self.assertEqual(next_looks(late, ()), [])
        self.assertEqual(next_looks(late, [("seen", 0, 0), ("seen", 0, 0)]), [0])
        self.assertEqual(clearing(late, ()), 3)

    def test_against_a_search(self):
        found = set()
        for book, log in CASES:
            told = next_looks(book, log)
            self.assertEqual(told, next_found(book, worlds_behind(book, log)))
            self.assertIs(type(told), list)
            self.assertTrue(one_by_one(told))
            found.add(tuple(told))
        self.assertTrue({(), (0,), (1,), (0, 1), (0, 2), (2,)} <= found, found)


class Clearing(unittest.TestCase):
    def test_e13(self):
        self.assertEqual(clearing(BOTH, ()), 1)
        self.assertIsNone(clearing(BOTH, (("lost",),)))

    def test_at_most_one_name_needs_no_look(self):
        self.assertEqual(clearing(BOTH, [("seen", 0, 1)]), 0)
        self.assertEqual(clearing(BOTH, [("seen", 0, 9)]), 0)
        self.assertEqual(clearing(Book(Store((CORE, MIST)), ((1, 2),)), [("lost",)]), 0)

    def test_against_a_search(self):
        found = set()
        for book, log in some_cases(500, "clearing", lengths=(0, 0, 0, 1, 1, 2, 12), size=36):
            told = clearing(book, log)
            self.assertEqual(told, clearing_found(book, worlds_behind(book, log)), (book.layouts, log))
            found.add(told)
        self.assertTrue({0, 1, 2, 3, 4, None} <= found, found)

    def test_kept_books_against_a_search(self):
        chance = random.Random("kept clearing")
        found = set()
        for book in kept_books(120, "clearing", names=4, size=12):
            log = chance_log(chance, book, chance.choice((0, 0, 1, 2)))
            told = clearing(book, log)
            self.assertEqual(told, clearing_found(book, worlds_behind(book, log)))
            found.add(told)
        self.assertTrue({0, 1, 2, 3, 4} <= found, found)

    def test_behind_a_lost_entry_it_is_the_price_of_looks_that_cost_one(self):
        for book in kept_books(60, "lost clearing", size=200):
            prices = (1,) * len(book.store.kinds)
            self.assertEqual(clearing(book, [("lost",)]), least_price(book, prices))

    def test_the_eleventh_fact(self):
        found = []
        for book, log in some_cases(250, "eleventh", size=60):
            found.append(endless(book, log))
            self.assertEqual(clearing(book, log) is None, found[-1])
        self.assertTrue(found.count(True) > 30 and found.count(False) > 100, found.count(True))

    def test_never_none_without_lost_entries_in_kept_books(self):
        for book, log in CASES:
            if kept(book):
                self.assertIsNotNone(clearing(book, log))

    def test_the_cells_are_chosen_by_the_answers_ahead(self):
        book = Book(Store((THREE, STILL, STILL)), ((0, 0, 0), (0, 1, 0), (1, 0, 0), (1, 0, 1)))
        self.assertEqual(clearing(book, ()), 2)
        self.assertEqual(clearing(book, [("seen", 0, 1)]), 1)
        dry = dry_case((2, 1))[1]
        self.assertEqual(clearing(dry, ()), 1)
        self.assertIsNone(clearing(dry, [("lost",)]))
        far = Book(Store((STEEP,)), ((0,), (7,), (3,)))
        self.assertEqual([clearing(far, log) for log in [(), [("seen", 0, 0)] * 3, [("seen", 0, 0)] * 4]], [7, 4, 3])

    def test_a_look_may_cost_what_was_known(self):
        # Names that were apart in the cell are alike behind one look there.
        book = Book(Store((CORE, GEARS)), ((0, 0), (1, 3)))
        self.assertEqual(clearing(book, ()), 1)
        self.assertGreater(clearing(book, [("lost",)]), 1)

    def test_too_large_exactly_above_200(self):
        five = Kind(tuple(((at, at),) for at in range(5)), ((),) * 5, ())
        seven = Kind(tuple(((at, at),) for at in range(7)), ((),) * 7, ())
        for kinds in [(five, five, GEARS), (GEARS, five, five, LONE), (WHEEL, GEARS, GEARS)]:
            book = Book(Store(kinds), ((0,) * len(kinds), (1,) + (0,) * (len(kinds) - 1)))
            self.assertIn(clearing(book, ()), (1, 2, 3))
        for kinds in [(five, WHEEL, seven, CORE), (GEARS,) * 5, (GEARS, GEARS, CORE, CORE),
                      (seven, five, THREE, STILL)]:
            for names in (1, 2):
                book = Book(Store(kinds), tuple((at,) * len(kinds) for at in range(names)))
                for log in [(), [("lost",)], [("seen", 0, 9)], [("seen", 0, 0)]]:
                    with self.assertRaises(TooLarge) as caught:
                        clearing(book, log)
                    self.assertEqual(caught.exception.most, 200)


def entries_found(program, layout, trace):
    """What entries_of must tell, by the words of 7.1."""
    place, log = 0, []
    for move in trace:
        step = program.steps[place]
        if step[0] == "look" and move[0] in ("step", "spoilt"):
            cell = step[1]
            answer, goal = program.store.kinds[cell].looks[layout[cell]][move[1]]
            log.append(("seen", cell, answer))
            layout = layout[:cell] + (goal,) + layout[cell + 1:]
            place = dict(step[2])[answer] if move[0] == "step" else 0
        elif move[0] == "step":
            layout = layout[:step[1]] + (program.store.kinds[step[1]].puts[step[2]][0],) + layout[step[1] + 1:]
            place = step[3]
        elif move[0] == "drift":
            layout = layout[:move[1]] + (move[2],) + layout[move[1] + 1:]
        elif move[0] == "torn":
            layout, place = layout[:step[1]] + (move[1],) + layout[step[1] + 1:], 0
        else:
            place = 0
        if move[0] in ("cut", "spoilt", "torn"):
            log.append(("lost",))
    return log


class Entries(unittest.TestCase):
    def test_examples(self):
        self.assertEqual(entries_of(SHORT, (1,), ()), [])
        self.assertEqual(entries_of(SHORT, (1,), (("step", 0),)), [("seen", 0, 1)])
        self.assertEqual(entries_of(SHORT, (1,), (("spoilt", 0), ("cut",), ("step", 0))),
                         [("seen", 0, 1), ("lost",), ("lost",), ("seen", 0, 0)])

    def test_puts_and_drifts_are_in_no_entry(self):
        program = Program(PAIR, (("put", 0, 0, 1), ("look", 1, ((0, 2), (1, 2), (2, 2), (3, 2))), ("tell", 0)))
        trace = (("drift", 1, 1), ("torn", 2), ("drift", 0, 2), ("step", 0), ("step", 0))
        self.assertEqual(entries_of(program, (0, 0), trace[:2] + trace[3:]), [("lost",), ("seen", 1, 0)])
        self.assertEqual(entries_of(program, (1, 0), (("drift", 0, 2), ("step", 0))), [])

    def test_all_sorts_of_moves(self):
        chance = random.Random("entries")
        words, lengths = set(), set()
        for program, book in mixed_cases(200, "entries"):
            for layout in book.layouts:
                trace, _ = chance_trace(chance, program, layout, chance.choice((0, 3, 12, 60)), chance.choice(
                    [("step", "drift"), ("spoilt", "torn", "cut"), ("step",), ()]))
                told = entries_of(program, layout, trace)
                self.assertIs(type(told), list)
                self.assertEqual(told, entries_found(program, layout, trace))
                words |= {(move[0], program.steps[place][0]) for move,
                          place in zip(trace, self.places(program, layout, trace))}
                lengths.add(min(len(told), 41))
        self.assertTrue({("step", "look"), ("step", "put"), ("spoilt", "look"), ("torn", "put"), ("cut", "look"),
                         ("cut", "put"), ("drift", "look"), ("drift", "put")} <= words, words)
        self.assertTrue({0, 1, 2, 41} <= lengths, lengths)

    def places(self, program, layout, trace):
        return [follow(program, layout, trace[:at])[0] for at in range(len(trace))]

    def test_without_puts_it_is_a_log_that_can_come(self):
        chance = random.Random("can come")
        many = 0
        for program, book in mixed_cases(250, "can come"):
            if any(step[0] == "put" for step in program.steps):
                continue
            for name, layout in enumerate(book.layouts):
                trace, end = chance_trace(chance, program, layout, chance.choice((1, 5, 15)), chance.choice(
                    [("step", "drift"), ("spoilt", "cut"), ("step",), ("drift",)]))
                log = entries_of(program, layout, trace)
                if len(log) <= 40:
                    many += len(log) > 2
                    self.assertIn(name, names_in(book, log))
                    behind = layouts_behind(book, log, name)
                    self.assertTrue(all(at in cell for at, cell in zip(end[1], behind)))
        self.assertGreater(many, 60)

    def test_long_logs_are_none_for_the_others(self):
        trace = (("spoilt", 0),) * 21
        log = entries_of(SHORT, (1,), trace)
        self.assertEqual(len(log), 42)
        for call in (names_in, next_looks, clearing):
            with self.assertRaises(NoLog):
                call(BOTH, log)
        self.assertEqual(names_in(BOTH, log[:40]), [1])
        self.assertEqual(len(entries_of(SHORT, (0,), (("cut",),) * 3000)), 3000)

    def test_errors(self):
        for layout in [(2,), (), (0, 0), [0], (True,), None, 0, "0"] + odd_things():
            if layout != (0,) or type(layout) is not tuple:
                for trace in ((), None, (("step", 0),)):
                    with self.assertRaises(NoLayout, msg=repr(layout)[:200]):
                        entries_of(SHORT, layout, trace)
        wrong = [[], [("step", 0)], (("step", 1),), (("step", 0), ("cut",)), (("torn", 0),), (("drift", 0, 0),),
                 (("spoilt", 1),), (("cut", 0),), ("cut",), (("step", True),), (("step", False),), (["cut"],), None,
                 "cut"]
        for trace in wrong + [thing for thing in odd_things() if not (type(thing) is tuple and len(thing) == 0)]:
            with self.assertRaises(NoTrace, msg=repr(trace)[:200]):
                entries_of(SHORT, (0,), trace)
        for thing in odd_things():
            with self.assertRaises(NoTrace):
                entries_of(SHORT, (0,), (("cut",), thing))

    def test_what_is_returned_is_new(self):
        trace = (("spoilt", 0),)
        entries_of(SHORT, (1,), trace).clear()
        self.assertEqual(entries_of(SHORT, (1,), trace), [("seen", 0, 1), ("lost",)])


if __name__ == "__main__":
    unittest.main()
