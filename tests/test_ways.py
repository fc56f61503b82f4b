"""1.2 and 1.3: what comes, ways and rows of answers; example e01."""

import itertools
import unittest

from lookspoil.errors import NoRow, NoStanding, NoStandings, NoWay
from lookspoil.kinds import Kind
from lookspoil.ways import after_row, comes, way_end
from tests.samples import CORE, LONE, MIST, SAMPLES, SLIP, WHEEL, coming, odd_things, some_kinds

NO_STANDINGS = [-1, 3, 4, 10 ** 59, -(10 ** 59), True, False, None, "0", b"\x00", (0,), [0], {}, range(1), 3 * (0,)]


def some_more():
    return list(SAMPLES) + some_kinds(60, "ways", sizes=(1, 2, 3, 5, 8), drifts=3)


def rows_of(kind, begin, most):
    """For each row of at most most answers that is possible, the standings behind it: by trying all ways."""
    behind = {}
    known = set()
    left = [(begin, ())]
    while left:
        at, row = left.pop()
        if (at, row) in known:
            continue
        known.add((at, row))
        behind.setdefault(row, set()).add(at)
        left += [(goal, row) for goal in kind.drifts[at]]
        if len(row) < most:
            left += [(goal, row + (answer,)) for answer, goal in kind.looks[at]]
    return behind


class Comes(unittest.TestCase):
    def test_examples(self):
        self.assertEqual(comes(CORE, 1), [0, 1])
        self.assertEqual(comes(CORE, 0), [0])
        self.assertEqual(comes(WHEEL, 2), [0, 1, 2])
        self.assertEqual(comes(SLIP, 1), [1, 2])

    def test_against_a_search(self):
        for kind in some_more():
            for at, known in enumerate(coming(kind)):
                self.assertEqual(comes(kind, at), sorted(known))
                self.assertIs(type(comes(kind, at)), list)

    def test_a_new_list_each_time(self):
        comes(CORE, 1).append(7)
        self.assertEqual(comes(CORE, 1), [0, 1])

    def test_no_standing(self):
        for thing in NO_STANDINGS + odd_things():
            with self.assertRaises(NoStanding):
                comes(WHEEL, thing)
        with self.assertRaises(NoStanding):
            comes(LONE, 1)


class WayEnd(unittest.TestCase):
    def test_looks_drifts_and_the_empty_way(self):
        self.assertEqual(way_end(CORE, 1, (("look", 0),)), 0)
        self.assertEqual(way_end(CORE, 1, ()), 1)
        self.assertEqual(way_end(MIST, 0, (("drift", 1), ("look", 1), ("look", 1), ("drift", 2), ("look", 0))), 2)
        self.assertEqual(way_end(MIST, 0, (("look", 0),)), 0)
        self.assertEqual(way_end(SLIP, 0, (("drift", 1), ("drift", 2))), 2)

    def test_each_step_of_each_standing(self):
        for kind in some_more():
            for at in range(kind.size):
                for number, (_, goal) in enumerate(kind.looks[at]):
                    self.assertEqual(way_end(kind, at, (("look", number),)), goal)
                for goal in range(kind.size):
                    if goal in kind.drifts[at]:
                        self.assertEqual(way_end(kind, at, (("drift", goal),)), goal)
                    else:
                        self.assert_no_way(kind, at, (("drift", goal),))
                self.assert_no_way(kind, at, (("look", len(kind.looks[at])),))

    def assert_no_way(self, kind, at, way):
        with self.assertRaises(NoWay, msg=repr(way)[:200]):
            way_end(kind, at, way)

    def test_wrong_steps(self):
        for step in [
                ("look",), ("look", 2), ("look", -1), ("look", True), ("look", False), ("look", None), ("look", "0"),
                ("look", 0, 0), ["look", 0], "look", ("Look", 0), (b"look", 0), (0, "look"), ("look", (0,)), (), 0,
                ("drift",), ("drift", 2), ("drift", 0), ("drift", True), ("drift", -1), ("drift", 1, 1), ["drift", 1],
                ("both", 0, 0), ("first", 1), ("second", 1), ("cut",), ("look", 10 ** 59), ("drift", [1]), (CORE, 0)]:
            self.assert_no_way(MIST, 0, (step,))
            self.assert_no_way(MIST, 0, (("look", 0), step))
            self.assert_no_way(MIST, 0, (step, ("look", 0)))

    def test_wrong_ways(self):
        for way in [[], [("look", 0)], ("look", 0), None, "", {}, range(0), {("look", 0): 0}]:
            self.assert_no_way(MIST, 0, way)
        for thing in odd_things():
            if thing != ():
                self.assert_no_way(MIST, 0, thing)
            if thing != ("look", 0):
                self.assert_no_way(MIST, 0, (thing,))
            if thing != "look":
                self.assert_no_way(MIST, 0, ((thing, 0),))
            self.assert_no_way(MIST, 0, (("look", thing),))
            self.assert_no_way(MIST, 0, (("drift", thing),))

    def test_no_standing_comes_first(self):
        for thing in NO_STANDINGS + odd_things():
            for way in [(), None, (("look", 9),)]:
                with self.assertRaises(NoStanding):
                    way_end(MIST, thing, way)

    def test_a_way_of_thousands_of_steps(self):
        self.assertEqual(way_end(WHEEL, 0, (("look", 0),) * 3001), 1)
        self.assertEqual(way_end(MIST, 0, (("drift", 1), ("drift", 0)) * 1500), 0)
        self.assert_no_way(WHEEL, 0, (("look", 0),) * 3000 + (("look", 1),))


class AfterRow(unittest.TestCase):
    def test_examples(self):
        self.assertEqual(after_row(WHEEL, [0, 1, 2], (0, 1)), [0])
        self.assertEqual(after_row(WHEEL, (0, 1, 2), (0,)), [1, 2])
        self.assertEqual(after_row(WHEEL, [0], (1,)), [])

    def test_drifts_ahead_between_and_behind(self):
        self.assertEqual(after_row(SLIP, [0], ()), [0, 1, 2])
        self.assertEqual(after_row(SLIP, [0], (6,)), [2])
        self.assertEqual(after_row(SLIP, [0], (7,)), [2])
        self.assertEqual(after_row(SLIP, [0], (5,)), [0, 1, 2])
        self.assertEqual(after_row(SLIP, [0], (5, 6, 7)), [2])
        self.assertEqual(after_row(SLIP, [1], (5,)), [])

    def test_none_some_twice_lists_and_tuples(self):
        self.assertEqual(after_row(WHEEL, [], (0,)), [])
        self.assertEqual(after_row(WHEEL, (), ()), [])
        self.assertEqual(after_row(WHEEL, (2, 0, 2, 0), ()), [0, 2])
        self.assertEqual(after_row(WHEEL, [2, 2], (1, 0)), [1])
        self.assertEqual(after_row(WHEEL, [2] * 9000, (1,)), [0])

    def test_against_a_search_of_all_ways(self):
        for kind in SAMPLES[:6] + tuple(some_kinds(40, "rows")):
            known = [rows_of(kind, at, 3) for at in range(kind.size)]
            answers = sorted({answer for told in kind.looks for answer, _ in told} | {9})
            for many in range(4):
                for row in itertools.product(answers, repeat=many):
                    for begins in [(0,), tuple(range(kind.size)), tuple(range(1, kind.size))]:
                        behind = set().union(*[known[at].get(row, ()) for at in begins])
                        self.assertEqual(after_row(kind, begins, row), sorted(behind))

    def test_long_rows(self):
        self.assertEqual(after_row(WHEEL, [0], (0, 0, 1) * 66 + (0, 0)), [2])
        self.assertEqual(after_row(LONE, [0], (4,) * 200), [0])
        with self.assertRaises(NoRow):
            after_row(LONE, [0], (4,) * 201)
        with self.assertRaises(NoRow):
            after_row(LONE, [], (4,) * 201)

    def test_answers_at_their_bounds(self):
        ten = Kind((((0, 0), (9, 0)),), ((),), ())
        self.assertEqual(after_row(ten, [0], (0, 9)), [0])
        for answer in [-1, 10, True, False, None, "0", (0,), 10 ** 59]:
            for row in [(answer,), (9, answer), (answer, 9)]:
                with self.assertRaises(NoRow):
                    after_row(ten, [0], row)

    def test_no_row(self):
        for thing in [[], [0], "0", b"\x00", None, 0, {}, range(1)] + odd_things():
            if thing not in ((), (0,), (0, 0)):
                with self.assertRaises(NoRow):
                    after_row(WHEEL, [0], thing)
            if type(thing) is not int or not 0 <= thing <= 9:
                with self.assertRaises(NoRow):
                    after_row(WHEEL, [0], (0, thing))

    def test_no_standings_comes_first(self):
        for row in [(), None, (10,)]:
            for thing in [0, None, "", b"\x00", {}, {0: 0}, range(1), [3], (0, -1), [True], [0, False], ((0,),)]:
                with self.assertRaises(NoStandings):
                    after_row(WHEEL, thing, row)
            for thing in odd_things():
                if type(thing) not in (list, tuple) or list(thing[:3]) not in ([], [0], [0, 0], [0, 0, 0]):
                    with self.assertRaises(NoStandings):
                        after_row(WHEEL, thing, row)
                with self.assertRaises(NoStandings):
                    after_row(WHEEL, [0, thing], row)

    def test_arguments_stay_and_lists_are_new(self):
        standings = [2, 0, 2]
        again = after_row(WHEEL, standings, ())
        self.assertEqual(standings, [2, 0, 2])
        again.append(1)
        self.assertEqual(after_row(WHEEL, standings, ()), [0, 2])
        self.assertIsNot(after_row(LONE, standings[1:2], ()), standings)


if __name__ == "__main__":
    unittest.main()
