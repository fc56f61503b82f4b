"""4.1 and 4.2: sure kinds, classes, haunted and worn; example e05."""

import itertools
import unittest

from lookspoil.errors import NoStanding, NotSure
from lookspoil.kinds import Kind
from lookspoil.pairs import apart
from lookspoil.sures import class_of, classes, haunted, sure, worn
from tests.samples import (
    CORE, FOG, GEARS, LATE, LONE, MIST, SAMPLES, SLIP, STEEP, STILL, WHEEL, coming, many_kinds, odd_things, one_by_one,
    some_kinds)

SURES = [CORE, STILL, WHEEL, LATE, LONE, STEEP, GEARS] + some_kinds(
    150, "sures", sizes=(1, 2, 3, 4, 5, 6, 7, 8), answers=2, drifts=0, outcomes=1)
DRIFTING = Kind((((0, 0),), ((1, 0),)), ((), (1,)), ())
FORKED = Kind((((0, 0),), ((1, 0), (1, 1))), ((), ()), ())


def round_kind(answers, ahead=()):
    """A sure kind whose standings answer those ahead, one behind another, and then go round these answers."""
    every = tuple(ahead) + tuple(answers)
    goals = list(range(1, len(every))) + [len(ahead)]
    return Kind(tuple(((answer, goal),) for answer, goal in zip(every, goals)), ((),) * len(every), ())


def looked(kind, standing, many):
    """The answers of many looks and where the cell is behind them."""
    answers = []
    for _ in range(many):
        (answer, standing), = kind.looks[standing]
        answers.append(answer)
    return tuple(answers), standing


def search_class(kind, standing):
    """The class by its words, from answers so many that each round stands in them often."""
    _, late = looked(kind, standing, 8)
    answers, _ = looked(kind, late, 8 * 30)
    for size in range(1, 9):
        fits = [
            answers[at:at + size] for at in range(8)
            if answers[at:at + size] * 25 == answers[at:at + size * 25]]
        if fits:
            return min(fits)


class Sure(unittest.TestCase):
    def test_one_outcome_and_no_drifts(self):
        for kind in SURES:
            self.assertIs(sure(kind), True)
        for kind in [MIST, SLIP, FOG, DRIFTING, FORKED]:
            self.assertIs(sure(kind), False)
        for kind in many_kinds():
            self.assertIs(sure(kind), all(len(told) == 1 for told in kind.looks) and not any(kind.drifts))


class Classes(unittest.TestCase):
    def test_examples(self):
        self.assertEqual(classes(WHEEL), [(0, 0, 1)])
        self.assertEqual(class_of(CORE, 1), (0,))
        self.assertEqual(classes(CORE), [(0,)])
        self.assertEqual(classes(STILL), [(0,), (1,)])
        self.assertEqual(classes(LATE), [(1,), (2,)])

    def test_rounds_that_can_be_cut(self):
        self.assertEqual(class_of(round_kind((3, 3, 3, 3)), 2), (3,))
        self.assertEqual(class_of(round_kind((0, 1, 0, 1)), 0), (0, 1))
        self.assertEqual(class_of(round_kind((1, 0, 1, 0, 1, 0)), 0), (0, 1))
        self.assertEqual(class_of(round_kind((1, 0, 0, 1, 0, 0)), 1), (0, 0, 1))
        self.assertEqual(class_of(round_kind((1, 0, 1, 0, 1)), 0), (0, 1, 0, 1, 1))
        self.assertEqual(class_of(round_kind((1, 1, 0, 1, 1, 0, 1, 1)), 0), (0, 1, 1, 0, 1, 1, 1, 1))

    def test_rounds_that_are_turned(self):
        for turn in range(5):
            answers = (0, 0, 2, 0, 1)
            kind = round_kind(answers[turn:] + answers[:turn])
            for standing in range(5):
                self.assertEqual(class_of(kind, standing), (0, 0, 2, 0, 1))

    def test_the_way_into_the_round_does_not_count(self):
        kind = round_kind((2, 1, 2, 1), ahead=(0, 1, 2, 0))
        for standing in range(8):
            self.assertEqual(class_of(kind, standing), (1, 2))
        self.assertEqual(classes(kind), [(1, 2)])
        self.assertEqual(class_of(round_kind((9,), ahead=(0,) * 7), 0), (9,))

    def test_against_a_search(self):
        unlike = set()
        for kind in SURES:
            told = [search_class(kind, at) for at in range(kind.size)]
            self.assertEqual([class_of(kind, at) for at in range(kind.size)], told)
            self.assertEqual(classes(kind), sorted(set(told)))
            self.assertTrue(one_by_one(classes(kind)))
            unlike.add(len(set(told)))
        self.assertTrue({1, 2, 3} <= unlike, unlike)

    def test_the_second_fact(self):
        for kind in SURES:
            told = [class_of(kind, at) for at in range(kind.size)]
            for u, v in itertools.product(range(kind.size), repeat=2):
                self.assertEqual(not apart(kind, u, v), told[u] == told[v])

    def test_tuples_and_new_lists(self):
        self.assertIs(type(class_of(WHEEL, 0)), tuple)
        found = classes(STILL)
        self.assertEqual({type(found)} | {type(told) for told in found}, {list, tuple})
        found.append((7,))
        self.assertEqual(classes(STILL), [(0,), (1,)])


class Haunted(unittest.TestCase):
    def test_examples(self):
        self.assertEqual(haunted(CORE), Kind(CORE.looks, ((0,), (0,)), CORE.puts))
        self.assertEqual(haunted(WHEEL).drifts, ((1,), (2,), (0,)))
        self.assertEqual(haunted(MIST), Kind(MIST.looks, ((0, 1, 2), (0, 1), (2,)), MIST.puts))

    def test_looks_and_puts_stay_and_drifts_are_added(self):
        for kind in many_kinds():
            told = haunted(kind)
            self.assertEqual((told.looks, told.puts, told.size), (kind.looks, kind.puts, kind.size))
            for at in range(kind.size):
                goals = {goal for _, goal in kind.looks[at]} | set(kind.drifts[at])
                self.assertEqual(told.drifts[at], tuple(sorted(goals)))

    def test_twice_is_once_and_the_same_comes(self):
        for kind in many_kinds():
            self.assertEqual(haunted(haunted(kind)), haunted(kind))
            self.assertEqual(coming(haunted(kind)), coming(kind))

    def test_the_kind_stays(self):
        before = (MIST.looks, MIST.drifts, MIST.puts)
        haunted(MIST)
        self.assertEqual((MIST.looks, MIST.drifts, MIST.puts), before)


class Worn(unittest.TestCase):
    def test_examples(self):
        self.assertEqual([worn(CORE, at) for at in range(2)], [0, 1])
        self.assertEqual([worn(WHEEL, at) for at in range(3)], [0, 0, 0])
        self.assertEqual([worn(LATE, at) for at in range(6)], [2, 1, 0, 2, 1, 0])
        self.assertEqual([worn(STEEP, at) for at in range(8)], [6, 5, 4, 3, 2, 1, 0, 0])
        kind = round_kind((2, 1), ahead=(0,) * 6)
        self.assertEqual([worn(kind, at) for at in range(8)], [6, 5, 4, 3, 2, 1, 0, 0])

    def test_against_a_search(self):
        for kind in SURES:
            back = [any(looked(kind, at, many)[1] == at for many in range(1, 9)) for at in range(kind.size)]
            for at in range(kind.size):
                told = min(many for many in range(9) if back[looked(kind, at, many)[1]])
                self.assertEqual(worn(kind, at), told)
                self.assertIs(type(worn(kind, at)), int)


class Errors(unittest.TestCase):
    def test_no_standing_ahead_of_not_sure(self):
        for asked in [class_of, worn]:
            for kind in [STILL, DRIFTING, FORKED]:
                for thing in [-1, 2, True, False, None, "0", (0,), [0], 10 ** 59] + odd_things():
                    with self.assertRaises(NoStanding):
                        asked(kind, thing)

    def test_not_sure(self):
        for kind in [MIST, SLIP, FOG, DRIFTING, FORKED, haunted(WHEEL)]:
            for at in range(kind.size):
                for asked in [class_of, worn]:
                    with self.assertRaises(NotSure):
                        asked(kind, at)
            with self.assertRaises(NotSure):
                classes(kind)

    def test_samples_that_are_sure_have_classes(self):
        self.assertEqual([sure(kind) for kind in SAMPLES],
                         [True, True, True, False, True, False, True, True, True, False])


if __name__ == "__main__":
    unittest.main()
