"""0.2 to 0.5 over the whole program, and what is equal (1.1, 2.1, 6.1)."""

import copy
import inspect
import itertools
import random
import sys
import unittest

from lookspoil.benches import Bench
from lookspoil.books import apart_cells, denial, is_denial, is_keeping, keeping, kept
from lookspoil.borne import cuts_borne, dead_places, gap_needed, meeting
from lookspoil.desks import Desk
from lookspoil.drying import dry_book, dry_program, dry_store, drying
from lookspoil.errors import SpoilError
from lookspoil.greatest import alike_in, cover, greatest_book, is_cover, kinds_sure, most_names, names_by_classes
from lookspoil.judging import is_refutation, is_table, refutation, table
from lookspoil.kinds import Kind
from lookspoil.likenesses import is_likeness, likeness
from lookspoil.logs import clearing, entries_of, layouts_behind, names_in, next_looks
from lookspoil.lying import lie_reader, lies_borne, tells_with_lies
from lookspoil.pairs import alike_pairs, apart, common, common_row, heights, is_heights
from lookspoil.plans import bound, is_plan, plan
from lookspoil.programs import Program, has_puts
from lookspoil.pruning import alike_places, go_alike, pruned
from lookspoil.quick import cheapest_reader, least_price
from lookspoil.readers import bears, most_looks, reader
from lookspoil.reading import read_book, read_kind, read_program
from lookspoil.spares import spare_cells
from lookspoil.standins import is_stand_in, replaced, stand_in, twin_book, veil
from lookspoil.stores import Book, Store
from lookspoil.sures import class_of, classes, haunted, sure, worn
from lookspoil.texts import book_text, kind_text, program_text
from lookspoil.traces import cuts_in, follow
from lookspoil.ways import after_row, comes, way_end
from tests.samples import CORE, EVEN, LATE, MIST, SLIP, STEEP, STILL, WHEEL, odd_things
from tests.test_interface import FUNCTIONS
from tests.worlds import BOTH, BUSY_BOOK, SHORT, THREE, chain

KEPT = Book(Store((CORE, STILL, STILL)), ((1, 0, 0), (0, 1, 0), (1, 1, 1)))
READER = Program(Store((STILL,)), (("look", 0, ((0, 1), (1, 2))), ("tell", 0), ("tell", 1)))
TWO = Book(Store((STILL,)), ((0,), (1,)))
TRACE = (("spoilt", 0), ("cut",), ("step", 0))
LOG = [("seen", 0, 1), ("lost",)]
MENU = ((STILL, 3), (THREE, 5))
RING = ((), (("look", 0),), (("both", 0, 0),))
DENIED = (0, 1, (RING,))


def calls():
    """Calls of all functions that return something, as pairs of the function and its arguments."""
    return [
        (comes, (MIST, 0)), (way_end, (MIST, 0, (("look", 1), ("drift", 2)))), (after_row, (SLIP, [0, 1], (6, 7))),
        (apart, (STILL, 0, 1)), (alike_pairs, (LATE,)), (heights, (STEEP, 0, 7)), (heights, (CORE, 0, 1)),
        (is_heights, (STILL, 0, 1, {(0, 1): 0})), (common, (STEEP, 0, 7)), (common_row, (STEEP, 0, 7)),
        (likeness, (MIST, 0, 1)), (is_likeness, (CORE, 0, 1, RING)),
        (sure, (WHEEL,)), (class_of, (WHEEL, 1)), (classes, (LATE,)), (haunted, (WHEEL,)), (worn, (LATE, 0)),
        (apart_cells, (KEPT, 0, 2)), (kept, (KEPT,)), (keeping, (KEPT,)), (denial, (BOTH,)),
        (is_keeping, (TWO, {(0, 1): (0, {(0, 1): 0})})), (is_denial, (BOTH, DENIED)),
        (has_puts, (SHORT,)), (follow, (SHORT, (1,), TRACE)), (cuts_in, (TRACE,)),
        (table, (READER, TWO)), (table, (SHORT, BOTH)), (refutation, (SHORT, BOTH)),
        (is_table, (READER, TWO, (((0, (0,)), (1, (0,))), ((2, (1,)), (0, (1,)))))),
        (is_refutation, (SHORT, BOTH, (1, TRACE))),
        (cuts_borne, (SHORT, BOTH)), (meeting, (SHORT, BOTH, 0, 1)), (gap_needed, (SHORT, BOTH)),
        (dead_places, (SHORT, BOTH)),
        (bound, (BOTH, DENIED)), (plan, (SHORT, BOTH, DENIED)),
        (is_plan, (SHORT, BOTH, 0, 1, ((("step", 0),), TRACE[:1] + TRACE[2:]))),
        (bears, (READER, TWO)), (reader, (KEPT,)), (most_looks, (SHORT,)),
        (least_price, (KEPT, (1, 2, 3))), (cheapest_reader, (KEPT, (1, 2, 3))),
        (drying, (3,)), (dry_store, ((2, 1),)), (dry_book, ((2, 1),)), (dry_program, ((2, 1),)),
        (tells_with_lies, (READER, TWO, 0)), (lies_borne, (KEPT,)), (lie_reader, (KEPT, 0)),
        (most_names, (Store((WHEEL, STILL)),)), (names_by_classes, (Store((WHEEL, STILL)),)),
        (greatest_book, (Store((STILL, THREE)),)), (kinds_sure, (Store((WHEEL, MIST)),)),
        (alike_in, (Store((CORE, STILL)), (0, 0), (1, 0))), (cover, (Store((CORE, STILL)),)),
        (is_cover, (Store((CORE,)), [[(0,), (1,)]])),
        (stand_in, (THREE, STILL)), (is_stand_in, (THREE, STILL, (2, 0))), (replaced, (KEPT, 1, THREE, (2, 0))),
        (twin_book, (MIST,)), (veil, (MIST,)),
        (names_in, (BOTH, LOG)), (next_looks, (BOTH, [])), (layouts_behind, (BOTH, LOG, 1)), (clearing, (BOTH, ())),
        (entries_of, (SHORT, (1,), TRACE)), (spare_cells, (BOTH, MENU)),
        (go_alike, (SHORT, SHORT)), (pruned, (SHORT,)), (alike_places, (SHORT,)),
        (kind_text, (MIST,)), (program_text, (SHORT,)), (book_text, (KEPT,)),
        (read_kind, ("look 0:0\n",)), (read_program, (SHORT.store, "tell 0\n")), (read_book, (SHORT.store, "0\n1\n"))]


def judges():
    """The functions that judge, with arguments ahead of what is judged."""
    return [
        (is_heights, (STILL, 0, 1)), (is_heights, (MIST, 0, 2)), (is_likeness, (CORE, 0, 1)), (is_keeping, (KEPT,)),
        (is_keeping, (Book(Store((CORE,)), ((0,),)),)), (is_denial, (BOTH,)), (is_table, (READER, TWO)),
        (is_refutation, (SHORT, BOTH)),
        (is_plan, (SHORT, BOTH, 0, 1)), (is_cover, (Store((CORE, STILL)),)), (is_stand_in, (THREE, STILL))]


def parts_of(thing):
    """All that makes up a thing, by which it can be compared and shown to be as it was."""
    if isinstance(thing, Kind):
        return Kind, thing.looks, thing.drifts, thing.puts
    if isinstance(thing, (Store, Book, Program)):
        return type(thing), {name: parts_of(part) for name, part in vars(thing).items()}
    if isinstance(thing, (list, tuple)):
        return type(thing), [parts_of(part) for part in thing]
    if isinstance(thing, dict):
        return dict, {key: parts_of(part) for key, part in thing.items()}
    return type(thing), thing


def spoil(thing):
    """Change all lists and dicts in a thing."""
    if isinstance(thing, (list, tuple)):
        for part in thing:
            spoil(part)
    if isinstance(thing, dict):
        for part in thing.values():
            spoil(part)
    if isinstance(thing, list):
        thing.append("spoilt")
    if isinstance(thing, dict):
        thing["spoilt"] = None


def made_of(thing):
    """Things made of another one, at different depths."""
    return [thing, (thing,), [thing], (thing, thing), (0, thing), (1, thing), (0, 1, thing), (0, 1, (thing,)),
            ((), (), thing),
            {(0, 1): thing}, {0: thing}, ((thing,), (thing,)), [[thing]], (((0, thing),), ((0, (thing,)),)),
            (0, (thing,)),
            (0, (("step", thing),)), ((("step", 0),), (thing,)), {(0, 1): (0, thing)}, ((), (("look", 0),), (thing,))]


class Answers(unittest.TestCase):
    def test_every_function_is_called_here(self):
        listed = {line.split("(")[0] for lines in FUNCTIONS.values() for line in lines}
        self.assertEqual({function.__name__ for function, _ in calls()}, listed)
        self.assertEqual({function.__name__ for function, _ in judges()},
                         {name for name in listed if name.startswith("is_")})

    def test_equal_calls_give_equal_answers_in_whatever_order(self):
        first = [parts_of(function(*arguments)) for function, arguments in calls()]
        for seed in range(3):
            order = list(range(len(first)))
            random.Random(seed).shuffle(order)
            every = calls()
            for at in order:
                function, arguments = every[at]
                self.assertEqual(parts_of(function(*arguments)), first[at], function.__name__)

    def test_what_is_returned_is_new_and_may_be_changed(self):
        for function, arguments in calls():
            told = function(*arguments)
            before = parts_of(told)
            spoil(told)
            self.assertEqual(parts_of(function(*arguments)), before, function.__name__)

    def test_what_is_handed_in_stays(self):
        for function, arguments in calls():
            before = parts_of(arguments)
            spoil(function(*arguments))
            self.assertEqual(parts_of(arguments), before, function.__name__)

    def test_lists_and_dicts_inside_are_new_too(self):
        told = keeping(KEPT)
        self.assertEqual(len({id(pair[1]) for pair in told.values()}), len(told))
        lists = alike_places(chain(SHORT.store, 5)) + cover(Store((EVEN,)))
        self.assertEqual(len({id(one) for one in lists}), len(lists))

    def test_equal_arguments_that_are_other_objects(self):
        for function, arguments in calls():
            self.assertEqual(
                parts_of(function(*copy.deepcopy(arguments))), parts_of(function(*arguments)), function.__name__)

    def test_flags_are_flags(self):
        for function, arguments in calls():
            if function.__name__.startswith("is_") or function in (
                    apart, sure, kept, has_puts, bears, tells_with_lies, kinds_sure, alike_in, go_alike):
                self.assertIs(type(function(*arguments)), bool, function.__name__)

    def test_all_judged_ones_here_are_right(self):
        for function, arguments in calls():
            if function.__name__.startswith("is_"):
                self.assertIs(function(*arguments), True, function.__name__)


class WrongArguments(unittest.TestCase):
    """Where an error is named for an argument, no other one is raised, whatever it is."""

    ERRORS = {
        "u": "NoStanding", "v": "NoStanding", "standing": "NoStanding", "way": "NoWay", "standings": "NoStandings",
        "row": "NoRow",
        "layout": "NoLayout", "trace": "NoTrace", "denied": "NoDenial", "prices": "NoPrices", "most": "NoNumber",
        "lengths": "NoLengths", "many": "NoNumber", "cell": "NoCell", "log": "NoLog", "name": "NoName",
        "menu": "NoMenu",
        "text": "BadText"}

    def named(self, function, argument):
        """The error that is named for an argument of a function, None if there is none."""
        if argument in ("one", "two"):
            return "NoLayout" if function is alike_in else "NoName"
        if argument == "thing":
            return "NoStandIn" if function is replaced else None
        return None if function is cuts_in else self.ERRORS.get(argument)

    def test_functions(self):
        seen = set()
        things = odd_things() + [Bench(SHORT, (0,)), Desk(), Bench, SHORT, 10 ** 60 - 1, 1 - 10 ** 60]
        for function, arguments in calls():
            for at, argument in enumerate(inspect.signature(function).parameters):
                error = self.named(function, argument)
                seen.add(error)
                for thing in things if error else ():
                    try:
                        function(*arguments[:at], thing, *arguments[at + 1:])
                    except SpoilError as raised:
                        self.assertEqual(type(raised).__name__, error, (function.__name__, argument, repr(thing)[:100]))
        self.assertEqual(seen, {None, *self.ERRORS.values(), "NoStandIn"})

    def test_classes_and_methods(self):
        bench, desk, store = Bench(SHORT, (1,)), Desk(), SHORT.store
        for thing in odd_things() + [Bench(SHORT, (0,)), Desk(), Bench, SHORT]:
            for call, error in [
                    (lambda: Kind(thing, ((),), ()), "BadKind"), (lambda: Kind((((0, 0),),), thing, ()), "BadKind"),
                    (lambda: Kind((((0, 0),),), ((),), thing), "BadKind"), (lambda: Store(thing), "BadStore"),
                    (lambda: Book(store, thing), "BadBook"), (lambda: Program(store, thing), "BadProgram"),
                    (lambda: Program(store, (thing,)), "BadProgram"), (lambda: Bench(SHORT, thing), "NoLayout"),
                    (lambda: bench.do(thing), "NoMove"), (lambda: bench.back(thing), "NoNumber"),
                    (lambda: desk.tell(thing), "NoLine")]:
                try:
                    call()
                except SpoilError as raised:
                    self.assertEqual(type(raised).__name__, error, repr(thing)[:100])
        self.assertEqual((bench.place, bench.layout(), bench.trace(), desk.undoable()), (0, (1,), (), 0))


class Judges(unittest.TestCase):
    def test_any_object(self):
        things = odd_things() + [Bench(SHORT, (0,)), Desk(), READER, SHORT, DENIED, RING, TRACE, LOG, MENU, Bench, Desk]
        for function, arguments in judges():
            for thing in things:
                for other in made_of(thing):
                    self.assertIs(type(function(*arguments, other)), bool, (function.__name__, repr(other)[:200]))

    def test_what_is_judged_stays(self):
        for function, arguments in judges():
            for thing in [[[(0, 0)], []], {(0, 1): {}}, (1, [("cut",)]), {}, [], {(0, 1): (0, {(0, 1): 0})}]:
                before = copy.deepcopy(thing)
                function(*arguments, thing)
                self.assertEqual(thing, before)

    def test_deep_and_wide_things(self):
        for inner in (0, None, "look", (0,), KEPT):
            deep_tuple, deep_list, deep_dict = inner, inner, inner
            for _ in range(39):
                deep_tuple, deep_list, deep_dict = (deep_tuple,), [deep_list], {(0, 1): deep_dict}
            for function, arguments in judges():
                for thing in (deep_tuple, deep_list, deep_dict, (inner,) * 9998, [inner] * 9998, ((inner,),) * 4998):
                    self.assertIs(function(*arguments, thing), False)


class Equality(unittest.TestCase):
    def test_equal_exactly_if_the_parts_are(self):
        kinds = [CORE, STILL, Kind(STILL.looks, ((1,), ()), ()), Kind(STILL.looks, STILL.drifts, ((0, ()),)),
                 Kind(STILL.looks, STILL.drifts, ((0, (0,)),)), WHEEL]
        stores = [Store(chosen) for many in (1, 2) for chosen in itertools.product(kinds[:3], repeat=many)]
        books = [Book(store, layouts) for store in stores[:3] for layouts in [
            ((0,),), ((1,),), ((0,), (1,)), ((1,), (0,))]]
        programs = [Program(store, steps) for store in stores[:3] for steps in [
            (("tell", 0),), (("tell", 1),), (("tell", 0),) * 2, (("look", 0, ((0, 1), (1, 1))), ("tell", 0))]]
        for things in (kinds, stores, books, programs):
            again = copy.deepcopy(things)
            for one, two in itertools.product(range(len(things)), repeat=2):
                self.assertIs(things[one] == again[two], one == two)
                self.assertIs(things[one] != again[two], one != two)

    def test_equal_to_no_thing_of_another_class(self):
        things = [CORE, KEPT.store, KEPT, SHORT, Bench(SHORT, (0,)), Desk()]
        others = odd_things() + [
            (CORE.looks, CORE.drifts, CORE.puts), [CORE.looks, CORE.drifts, CORE.puts], CORE.looks, KEPT.store.kinds,
            list(KEPT.store.kinds), (KEPT.store, KEPT.layouts), KEPT.layouts, (SHORT.store, SHORT.steps), SHORT.steps,
            (SHORT, (0,)), 0, None, "", "core"]
        for one, other in itertools.product(things, things + others):
            if type(one) is not type(other):
                self.assertIs(one == other, False)
                self.assertIs(other == one, False)
                self.assertIs(one != other, True)
        same = [Store((CORE,)), Book(Store((CORE,)), ((0,),)), Program(Store((CORE,)), (("tell", 0),)), CORE]
        for one, two in itertools.permutations(same, 2):
            self.assertIs(one == two, False)

    def test_errors_are_equal_to_no_thing_of_another_class(self):
        made = [error() for error in SpoilError.__subclasses__() if "__init__" not in vars(error)]
        made += [error(1) for error in SpoilError.__subclasses__() if "__init__" in vars(error)]
        self.assertEqual(len(made), 30)
        for one, two in itertools.permutations(made, 2):
            self.assertIs(one == two, False)


class Sizes(unittest.TestCase):
    def test_what_was_returned_may_be_passed_on(self):
        book = greatest_book(Store((EVEN, EVEN)))
        self.assertEqual(len(book.layouts), 64)
        self.assertIs(is_keeping(book, keeping(book)), True)
        self.assertEqual(apart_cells(book, 0, 63), [0, 1])
        made = reader(book)
        self.assertIs(bears(made, book), True)
        self.assertIs(tells_with_lies(made, book, 0), True)
        self.assertIsNone(lie_reader(book, 1))
        self.assertEqual(lies_borne(book), 0)
        self.assertIs(is_table(made, book, table(made, book)), True)
        self.assertIsNone(refutation(made, book))
        self.assertIsNone(cuts_borne(made, book))
        self.assertIsNone(meeting(made, book, 0, 63))
        self.assertEqual(gap_needed(made, book), 0)
        less = pruned(made)
        self.assertIs(go_alike(less, made), True)
        self.assertIs(bears(less, book), True)
        self.assertEqual(len([places for places in alike_places(less)]), len(less.steps))
        self.assertEqual(program_text(made).count("\n"), len(made.steps))
        self.assertEqual(book_text(book).count("\n"), 64)
        self.assertEqual(least_price(book, (1, 1)), 2)
        self.assertEqual(most_looks(cheapest_reader(book, (1, 1))), 2)
        self.assertEqual(clearing(book, ()), 2)
        self.assertEqual(len(names_in(book, [("seen", 1, 7)])), 8)
        self.assertEqual(layouts_behind(book, (), 63), tuple([at] for at in book.layouts[63]))
        self.assertEqual(spare_cells(book, MENU)[:2], (0, ()))
        turned = replaced(book, 0, EVEN, tuple(range(8))[::-1])
        self.assertIs(kept(turned), True)
        twice = Book(book.store, book.layouts[:1] * 2)
        self.assertIs(is_plan(made, twice, 0, 1, plan(made, twice, denial(twice))), True)
        bench = Bench(made, book.layouts[40])
        while bench.name() is None:
            bench.do(("step", 0))
        self.assertEqual(bench.name(), 40)
        self.assertEqual(follow(made, book.layouts[40], bench.trace())[0], bench.place)
        self.assertEqual(names_in(book, entries_of(made, book.layouts[40], bench.trace())[:40]), [40])

    def test_long_traces(self):
        trace = (("cut",),) * 5000 + (("spoilt", 0),) * 5000
        self.assertEqual(follow(SHORT, (1,), trace), (0, (0,)))
        self.assertEqual((cuts_in(trace), len(entries_of(SHORT, (1,), trace))), (10000, 15000))
        self.assertIs(is_refutation(SHORT, BOTH, (1, trace[:-1] + (("spoilt", 0), ("step", 0)))), True)


class Recursion(unittest.TestCase):
    """No call needs many frames, so that none raises RecursionError."""

    def in_few_frames(self, action):
        depth, frame = 0, sys._getframe()
        while frame:
            depth, frame = depth + 1, frame.f_back
        before = sys.getrecursionlimit()
        sys.setrecursionlimit(depth + 60)
        try:
            return action()
        finally:
            sys.setrecursionlimit(before)

    def test_all_functions(self):
        for function, arguments in calls():
            told = parts_of(function(*arguments))
            self.assertEqual(parts_of(self.in_few_frames(lambda: function(*arguments))), told, function.__name__)

    def test_large_things(self):
        long = chain(Store((STILL,)), 400)
        book = Book(long.store, ((1,),))
        for action in [
                lambda: reader(BUSY_BOOK), lambda: pruned(reader(BUSY_BOOK)), lambda: program_text(reader(BUSY_BOOK)),
                lambda: table(long, book), lambda: most_looks(long), lambda: alike_places(long),
                lambda: cuts_borne(long, Book(long.store, ((1,),) * 2)),
                lambda: gap_needed(long, book), lambda: follow(long, (0,), (("step", 0),) * 399),
                lambda: most_names(Store((EVEN, EVEN))), lambda: clearing(greatest_book(Store((STILL,) * 5)), ()),
                lambda: spare_cells(Book(Store((CORE,)), ((0,),) * 12), ((EVEN, 1),)),
                lambda: stand_in(EVEN, EVEN), lambda: read_kind("look 0:0\n" * 8 + "put 0\n" * 4),
                lambda: read_program(long.store, program_text(long))]:
            self.assertIsNotNone(self.in_few_frames(action))

    def test_deep_things_are_judged(self):
        for thing in odd_things():
            for function, arguments in judges():
                self.assertIs(type(self.in_few_frames(lambda: function(*arguments, thing))), bool)


if __name__ == "__main__":
    unittest.main()
