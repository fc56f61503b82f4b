"""9.1 and 9.2: bounds, plans and the fifth fact."""

import copy
import random
import unittest

from lookspoil.books import denial, is_denial, kept
from lookspoil.borne import cuts_borne, meeting
from lookspoil.errors import NoDenial, NoName, OtherStore
from lookspoil.kinds import Kind
from lookspoil.plans import bound, is_plan, plan
from lookspoil.programs import Program
from lookspoil.stores import Book, Store
from lookspoil.traces import cuts_in, follow
from tests.samples import CORE, FOG, LATE, MIST, SLIP, STEEP, STILL, WHEEL, odd_things, some_kinds
from tests.worlds import (
    BOTH, OTHERS, SHORT, TORN, chain, chance_layout, chance_program, chance_store, chance_trace, dry_case, mixed_cases,
    pairs_of_names, put_kinds, with_put_in)

LOOK = ("look", 0)
TOGETHER = ("both", 0, 0)
RIGHT = (0, 1, (((), (LOOK,), (TOGETHER,)),))


def turned(likeness, chance):
    """Another likeness of the same standings: both ways go on along the ring for some steps."""
    one, two, ring = likeness
    for _ in range(chance.randrange(2 * len(ring))):
        step = ring[0]
        if step[0] == "both":
            one, two = one + (("look", step[1]),), two + (("look", step[2]),)
        elif step[0] == "first":
            one += (("drift", step[1]),)
        else:
            two += (("drift", step[1]),)
        ring = ring[1:] + ring[:1]
    return one, two, ring * chance.randint(1, 3)


def lengthened(likeness, chance):
    """Another likeness of the same standings: each way alone goes round on its side of the ring."""
    one, two, ring = likeness
    sides = [
        tuple(("look", step[at]) if step[0] == "both" else ("drift", step[1])
              for step in ring if step[0] in ("both", word))
        for at, word in [(1, "first"), (2, "second")]]
    return one + sides[0] * chance.randrange(3), two + sides[1] * chance.randrange(3), ring


def other_denials(denied, chance):
    one, two, likenesses = denied
    made = []
    for _ in range(3):
        made.append((one, two, tuple(turned(likeness, chance) for likeness in likenesses)))
        made.append((one, two, tuple(lengthened(turned(likeness, chance), chance) for likeness in likenesses)))
    return made


def bound_found(denied):
    """What bound must tell, by the words of 9.1."""
    return sum(max([step[0] for step in way].count("look") for way in likeness[:2]) for likeness in denied[2])


def denied_cases(many, seed):
    """Books that are not kept, of one to five cells, with a denial each."""
    chance = random.Random(seed)
    kinds = put_kinds(30, seed) + some_kinds(10, seed, drifts=1) + [CORE, TORN, MIST, SLIP, WHEEL, STEEP, LATE, FOG]
    made = []
    while len(made) < many:
        store = chance_store(chance, kinds, 5)
        book = Book(store, tuple(chance_layout(chance, store) for _ in range(chance.randint(2, 3))))
        if not kept(book):
            made.append((book, denial(book)))
    return made


def counting():
    """A program that counts its runs in a cell, tells by a look at another one, and looks twice in some runs."""
    counter = Kind(tuple(((at, at),) for at in range(6)), ((),) * 6, ((1, ()), (2, (0,)), (3, ()), (4, (5,))))
    store = Store((counter, CORE, MIST))
    steps = [("look", 0, ((0, 1), (1, 2), (2, 3), (3, 4), (4, 5), (5, 5)))]
    steps += [("put", 0, mark, 5) for mark in range(4)]
    steps += [("look", 1, ((0, 6), (1, 7))), ("look", 2, ((0, 8), (1, 8), (2, 9), (3, 9))), ("look", 1, ((0, 8), (1, 9))),
              ("tell", 0), ("look", 0, tuple((answer, 10 if answer < 3 else 11) for answer in range(6))),
              ("tell", 1), ("look", 1, ((0, 12), (1, 13))), ("tell", 0), ("tell", 1)]
    return Program(store, tuple(steps)), Book(store, ((0, 0, 0), (0, 1, 1), (0, 1, 2)))


class Bound(unittest.TestCase):
    def test_example(self):
        self.assertEqual(bound(BOTH, RIGHT), 1)
        self.assertEqual(bound(BOTH, (0, 1, (((LOOK,) * 3, (LOOK,) * 7, (TOGETHER,)),))), 7)
        self.assertEqual(bound(BOTH, (0, 1, (((LOOK,) * 9, (LOOK,) * 7, (TOGETHER,) * 5),))), 9)

    def test_equal_layouts(self):
        book = Book(Store((STILL, STILL)), ((0, 1), (0, 1)))
        ring = ((), (), (TOGETHER,))
        self.assertEqual(bound(book, (0, 1, (ring, ring))), 0)

    def test_drifts_are_no_looks(self):
        book = Book(Store((MIST,)), ((0,), (1,)))
        drifts = (("drift", 1), ("drift", 0)) * 3
        self.assertEqual(bound(book, (0, 1, ((drifts, (("drift", 0),), (TOGETHER,)),))), 0)
        self.assertEqual(bound(book, (0, 1, ((drifts + (LOOK,), (("drift", 0),), (TOGETHER,)),))), 1)

    def test_one_to_five_cells(self):
        chance = random.Random("bounds")
        cells = set()
        for book, denied in denied_cases(60, "bounds"):
            for told in [denied] + other_denials(denied, chance):
                self.assertTrue(is_denial(book, told))
                self.assertEqual(bound(book, told), bound_found(told))
            cells.add(len(book.store.kinds))
        self.assertEqual(cells, {1, 2, 3, 4, 5})

    def test_the_sum_over_all_cells(self):
        for cells in range(1, 6):
            program, book = dry_case((3, 1, 4, 1, 5)[:cells])
            self.assertEqual(bound(book, denial(book)), sum((3, 1, 4, 1, 5)[:cells]))

    def test_no_denial(self):
        paper = RIGHT[2][0]
        wrong = [None, (), (0, 1), RIGHT + (0,), list(RIGHT), (1, 0, RIGHT[2]), (0, 0, RIGHT[2]), (0, 2, RIGHT[2]),
                 (False, 1, RIGHT[2]), (0, True, RIGHT[2]), (0, 1, ()), (0, 1, (paper, paper)), (0, 1, [paper]),
                 (0, 1, paper), (0, 1, (list(paper),)), (0, 1, (((), (), (TOGETHER,)),)), (0, 1, (((), (LOOK,), ()),)),
                 (0, 1, (((LOOK,), (), (TOGETHER,)),)), (0, 1, (((), (["look", 0],), (TOGETHER,)),))]
        for thing in wrong + odd_things() + [(0, 1, (thing,)) for thing in odd_things()] + [
                (0, 1, (((), thing, (TOGETHER,)),)) for thing in odd_things()] + [
                (0, 1, (((), (LOOK,), thing),)) for thing in odd_things()]:
            before = repr(thing)[:20000]
            with self.assertRaises(NoDenial, msg=before[:200]):
                bound(BOTH, thing)
            with self.assertRaises(NoDenial, msg=before[:200]):
                plan(SHORT, BOTH, thing)
            self.assertEqual(repr(thing)[:20000], before)

    def test_a_kept_book_has_none(self):
        book = Book(Store((STILL,)), ((0,), (1,)))
        for thing in [(0, 1, (((), (), (TOGETHER,)),)), RIGHT]:
            with self.assertRaises(NoDenial):
                bound(book, thing)


class Plans(unittest.TestCase):
    def check(self, program, book, denied):
        """A plan within its bound; how many cuts it has at most."""
        told = plan(program, book, denied)
        one, two, _ = denied
        self.assertEqual((type(told), len(told)), (tuple, 2))
        ends = [follow(program, book.layouts[name], trace) for name, trace in zip((one, two), told)]
        self.assertEqual(ends[0][0], ends[1][0])
        self.assertEqual(program.steps[ends[0][0]][0], "tell")
        cuts = max(cuts_in(trace) for trace in told)
        self.assertLessEqual(cuts, bound_found(denied))
        self.assertIs(is_plan(program, book, one, two, told), True)
        self.assertIs(is_plan(program, book, two, one, told[::-1]), True)
        self.assertEqual(plan(program, book, denied), told)
        return cuts

    def test_example(self):
        self.assertEqual(self.check(SHORT, BOTH, RIGHT), 1)
        self.assertEqual(plan(SHORT, BOTH, RIGHT), ((("cut",), ("step", 0)), (("spoilt", 0), ("step", 0))))

    def test_programs_of_all_sorts(self):
        chance = random.Random("plans")
        found = set()
        for book, denied in denied_cases(150, "plans"):
            for told in [denied] + other_denials(denied, chance):
                program = chance_program(chance, book.store, chance.choice((1, 2, 4, 8, 20)), range(3))
                found.add(self.check(program, book, told))
        self.assertTrue({0, 1, 2, 3} <= found, found)

    def test_programs_that_look_long_and_never_put(self):
        chance = random.Random("long plans")
        for book, denied in denied_cases(25, "long plans"):
            for told in [denied] + other_denials(denied, chance)[:2]:
                program = chance_program(chance, book.store, 60, range(2), ("look",))
                self.check(program, book, told)

    def test_four_hundred_steps(self):
        chance = random.Random("400")
        for book, denied in denied_cases(4, "400"):
            self.check(chain(book.store, 400), book, denied)
            self.check(chance_program(chance, book.store, 400, range(2), ("look", "put")), book, denied)

    def test_programs_that_count(self):
        program, book = counting()
        chance = random.Random("counting")
        for one, two in [(0, 1), (1, 2), (0, 2)]:
            names = Book(book.store, (book.layouts[one], book.layouts[two]))
            denied = denial(names)
            for told in [denied] + other_denials(denied, chance) * 3:
                self.check(program, names, told)

    def test_cells_that_dry(self):
        for lengths in [(1,), (3,), (2, 1), (1, 2, 1), (1, 1, 1, 1, 1)]:
            program, book = dry_case(lengths)
            self.assertEqual(self.check(program, book, denial(book)), sum(lengths))
            self.assertEqual(meeting(program, book, 0, 1), sum(lengths))

    def test_each_world_may_be_the_one_that_still_has_looks(self):
        book = Book(BOTH.store, ((1,), (0,)))
        denied = (0, 1, (((LOOK,), (), (TOGETHER,)),))
        self.assertEqual(plan(SHORT, book, denied), ((("spoilt", 0), ("step", 0)), (("cut",), ("step", 0))))

    def test_both_worlds_look_on_their_ways(self):
        # 0 and 2 answer 1 and 2, and then both 0 for ever, in standings 1 and 3.
        kind = Kind((((1, 1),), ((0, 1),), ((2, 3),), ((0, 3),)), ((),) * 4, ())
        store = Store((kind,))
        book = Book(store, ((0,), (2,)))
        denied = (0, 1, (((LOOK,), (LOOK,), (TOGETHER,)),))
        program = Program(store, (("look", 0, ((0, 1), (1, 2), (2, 3))), ("tell", 5), ("tell", 0), ("tell", 1)))
        self.assertEqual(bound(book, denied), 1)
        self.assertEqual(plan(program, book, denied), ((("spoilt", 0), ("step", 0)),) * 2)

    def test_rings_with_drifts_of_either_world(self):
        # 0 drifts to 1 and 2 to 3; looks answer alike only there, and lead back.
        kind = Kind((((5, 0),), ((1, 0),), ((6, 2),), ((1, 2),)), ((1,), (), (3,), ()), ())
        store = Store((kind,))
        book = Book(store, ((0,), (2,)))
        denied = (0, 1, (((), (), (("first", 1), ("second", 3), TOGETHER)),))
        steps = [("look", 0, ((1, at + 1), (5, 6), (6, 7))) for at in range(5)]
        program = Program(store, (*steps, ("tell", 9), ("tell", 0), ("tell", 1)))
        told = plan(program, book, denied)
        self.assertEqual(told, (
            (("drift", 0, 1), ("step", 0)) * 5, (("drift", 0, 3), ("step", 0)) * 5))
        self.check(program, book, denied)

    def test_equal_layouts_need_no_cut(self):
        chance = random.Random("same")
        for book, _ in denied_cases(20, "same"):
            same = Book(book.store, (book.layouts[0],) * 2)
            self.assertEqual(self.check(chance_program(chance, book.store, 9), same, denial(same)), 0)

    def test_the_fifth_fact(self):
        denied = 0
        for program, book in mixed_cases(80, "fifth"):
            if not kept(book):
                denied += 1
                one, two, _ = denial(book)
                self.assertLessEqual(meeting(program, book, one, two), bound(book, denial(book)))
                self.assertIsNotNone(cuts_borne(program, book))
        self.assertGreater(denied, 20)

    def test_other_store_ahead_of_no_denial(self):
        for other in OTHERS:
            for denied in [denial(other), None, RIGHT, ()]:
                with self.assertRaises(OtherStore):
                    plan(SHORT, other, denied)

    def test_what_is_handed_in_stays(self):
        book, denied = denied_cases(1, "stays")[0]
        before = copy.deepcopy(denied)
        plan(chain(book.store, 5), book, denied)
        bound(book, denied)
        self.assertEqual(denied, before)


class IsPlan(unittest.TestCase):
    TRACES = ((("cut",), ("step", 0)), (("spoilt", 0), ("step", 0)))

    def judge(self, one, two, thing, told, program=SHORT, book=BOTH):
        self.assertIs(is_plan(program, book, one, two, thing), told, repr(thing)[:300])

    def test_right_ones(self):
        self.judge(0, 1, self.TRACES, True)
        self.judge(1, 0, self.TRACES[::-1], True)
        self.judge(0, 1, ((("step", 0),), self.TRACES[1]), True)
        self.judge(0, 1, ((("cut",),) * 3000 + (("step", 0),), (("cut",),) + self.TRACES[1]), True)

    def test_one_name_twice(self):
        step = (("step", 0),)
        for name in (0, 1):
            self.judge(name, name, (step, step), True)
            self.judge(name, name, (step, (("cut",),) + step), True)
        self.judge(1, 1, (self.TRACES[1], self.TRACES[1]), True)
        self.judge(1, 1, (step, self.TRACES[1]), False)
        self.judge(0, 0, (self.TRACES[1], step), True)

    def test_ends_that_are_not_one_tell_place(self):
        step = (("step", 0),)
        self.judge(0, 1, (step, step), False)
        self.judge(0, 1, ((), ()), False)
        self.judge(0, 1, ((("cut",),), (("cut",),)), False)
        self.judge(0, 1, (step, ()), False)
        self.judge(0, 1, ((), self.TRACES[1]), False)
        same = Program(SHORT.store, SHORT.steps[:2] + (("tell", 0),))
        self.judge(0, 1, (step, step), False, same)
        self.judge(0, 1, (step, self.TRACES[1]), True, same)
        looks = chain(SHORT.store, 3)
        self.judge(0, 1, (step, step), False, looks)
        self.judge(0, 1, (step * 2, step * 2), True, looks)
        told = Program(SHORT.store, (("tell", 3),))
        self.judge(0, 1, ((), ()), True, told)

    def test_by_chance(self):
        chance = random.Random("is plan")
        found = []
        for program, book in mixed_cases(100, "is plan"):
            for one, two in pairs_of_names(book):
                first, (place, _) = chance_trace(chance, program, book.layouts[one], 6)
                second, (other, _) = chance_trace(chance, program, book.layouts[two], 6)
                found.append(place == other and program.steps[place][0] == "tell")
                self.judge(one, two, (first, second), found[-1], program, book)
        self.assertTrue(found.count(True) > 30 and found.count(False) > 30)

    def test_wrong_ones(self):
        first, second = self.TRACES
        for thing in [(), (first,), (first, second, ()), [first, second], (list(first), second), (first, list(second)),
                      (second, first), (first, first), (first, second[1:]), (first + (("cut",),), second), None, first,
                      (first, None), (None, second), {0: first, 1: second}, "ab", (first, (second,)),
                      (first, (("spoilt", False), ("step", 0))), (first, (["spoilt", 0], ("step", 0))),
                      ((first, second),), (first, (("spoilt", 1), ("step", 0)))]:
            self.judge(0, 1, thing, False)
        for at in range(2):
            self.judge(0, 1, (first, with_put_in(second, at, ("step", 1))), False)

    def test_other_objects(self):
        first, second = self.TRACES
        for thing in odd_things():
            for told in [thing, (thing, second), (first, thing), (first, (thing,) + second), (first + (thing,), second),
                         ((("step", thing),), second), (first, (("spoilt", thing), ("step", 0)))]:
                self.judge(0, 1, told, False)

    def test_other_store_and_then_no_name_for_either(self):
        for thing in [2, -1, True, False, None, "0", (0,), 10 ** 59] + odd_things():
            for one, two in [(thing, 0), (0, thing), (thing, thing)]:
                for traces in [self.TRACES, None]:
                    with self.assertRaises(NoName):
                        is_plan(SHORT, BOTH, one, two, traces)
                with self.assertRaises(OtherStore):
                    is_plan(SHORT, OTHERS[0], one, two, self.TRACES)
        for other in OTHERS:
            with self.assertRaises(OtherStore):
                is_plan(SHORT, other, 0, 0, self.TRACES)

    def test_what_is_handed_in_stays(self):
        thing = (self.TRACES[0], [("spoilt", [0])])
        before = copy.deepcopy(thing)
        is_plan(SHORT, BOTH, 0, 1, thing)
        self.assertEqual(thing, before)


if __name__ == "__main__":
    unittest.main()
