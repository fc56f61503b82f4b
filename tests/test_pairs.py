"""3.1 and 3.2: apart and alike, heights and common answers; examples e02 and e03."""

import copy
import itertools
import unittest

from lookspoil.errors import NoStanding
from lookspoil.kinds import Kind
from lookspoil.pairs import alike_pairs, apart, common, common_row, heights, is_heights
from lookspoil.ways import after_row, comes
from tests.samples import (
    CORE, LONE, MIST, SAMPLES, SLIP, STILL, WHEEL, all_pairs, greatest_looks, many_kinds, odd_things, one_by_one,
    steps_of_pair)

KINDS = many_kinds()
# Three joint looks, then apart: (0, 1) leads by drifts and looks to pairs of many heights.
STAIRS = Kind((((0, 1),), ((0, 2),), ((0, 3),), ((1, 3),), ((0, 3),)), ((4,), (), (), (), (0,)), ())
NO_STANDINGS = [-1, 2, 10 ** 59, True, False, None, "0", (0,), [0], {}]


def alike(kind, u, v):
    return greatest_looks(kind, all_pairs(kind, u, v)) is None


def standings(kind):
    return list(itertools.product(range(kind.size), repeat=2))


def right(kind, u, v, table):
    """Whether the table holds all that is told of heights."""
    if not set(table) == all_pairs(kind, u, v):
        return False
    for pair in table:
        looks, drifts = steps_of_pair(kind, pair)
        if any(table[goal] >= table[pair] for goal in looks) or any(table[goal] > table[pair] for goal in drifts):
            return False
    return True


class Apart(unittest.TestCase):
    def test_examples(self):
        self.assertIs(apart(CORE, 0, 1), False)
        self.assertIs(apart(STILL, 0, 1), True)
        self.assertIs(apart(WHEEL, 0, 1), False)
        self.assertIs(apart(STAIRS, 0, 4), False)

    def test_against_a_search(self):
        found = set()
        for kind in KINDS:
            for u, v in standings(kind):
                self.assertIs(apart(kind, u, v), not alike(kind, u, v))
                found.add((apart(kind, u, v), any(kind.drifts), max(map(len, kind.looks)) > 1))
        self.assertEqual(found, set(itertools.product([True, False], repeat=3)))

    def test_a_pair_that_no_joint_steps_reach_counts(self):
        # Looks at 0 and 1 never answer alike, but behind one look each both are in 2.
        kind = Kind((((0, 2),), ((1, 2),), ((2, 2),)), ((), (), ()), ())
        self.assertIs(apart(kind, 0, 1), False)

    def test_a_ring_of_drifts_alone_makes_nothing_alike(self):
        kind = Kind((((0, 0),), ((1, 1),), ((1, 1),)), ((), (2,), (1,)), ())
        self.assertIs(apart(kind, 0, 1), True)
        self.assertIs(apart(kind, 1, 2), False)

    def test_a_standing_is_alike_to_itself(self):
        for kind in KINDS:
            for u in range(kind.size):
                self.assertIs(apart(kind, u, u), False)

    def test_no_standing_for_either(self):
        for thing in NO_STANDINGS + odd_things():
            for u, v in [(thing, 0), (0, thing), (thing, thing)]:
                for asked in [apart, heights, common, common_row]:
                    with self.assertRaises(NoStanding):
                        asked(STILL, u, v)
                with self.assertRaises(NoStanding):
                    is_heights(STILL, u, v, {(0, 1): 0})
        with self.assertRaises(NoStanding):
            apart(LONE, 0, 1)


class AlikePairs(unittest.TestCase):
    def test_examples(self):
        self.assertEqual(alike_pairs(CORE), [(0, 1)])
        self.assertEqual(alike_pairs(STILL), [])
        self.assertEqual(alike_pairs(LONE), [])
        self.assertEqual(alike_pairs(WHEEL), [(0, 1), (0, 2), (1, 2)])

    def test_against_a_search(self):
        for kind in KINDS:
            found = alike_pairs(kind)
            self.assertEqual(found, [(u, v) for u, v in standings(kind) if u < v and alike(kind, u, v)])
            self.assertTrue(one_by_one(found))

    def test_a_new_list_each_time(self):
        alike_pairs(CORE).append((0, 2))
        self.assertEqual(alike_pairs(CORE), [(0, 1)])


class Heights(unittest.TestCase):
    def test_examples(self):
        self.assertEqual(heights(STILL, 0, 1), {(0, 1): 0})
        self.assertIsNone(heights(CORE, 0, 1))

    def test_the_least_over_exactly_the_pairs(self):
        greatest = 0
        for kind in KINDS:
            for u, v in standings(kind):
                table = heights(kind, u, v)
                if alike(kind, u, v):
                    self.assertIsNone(table)
                    continue
                self.assertEqual(table, {pair: greatest_looks(kind, [pair]) for pair in all_pairs(kind, u, v)})
                self.assertTrue(right(kind, u, v, table))
                self.assertEqual({type(height) for height in table.values()}, {int})
                greatest = max(greatest, max(table.values()))
        self.assertGreater(greatest, 3)

    def test_no_height_can_be_less(self):
        for kind in KINDS[:60]:
            for u, v in standings(kind):
                table = heights(kind, u, v)
                for pair in table or ():
                    if table[pair]:
                        self.assertFalse(right(kind, u, v, {**table, pair: table[pair] - 1}))

    def test_a_new_dict_each_time(self):
        heights(STILL, 0, 1)[(0, 1)] = 7
        self.assertEqual(heights(STILL, 0, 1), {(0, 1): 0})


class IsHeights(unittest.TestCase):
    def test_right_ones(self):
        for kind in KINDS:
            for u, v in standings(kind):
                table = heights(kind, u, v)
                if table is not None:
                    self.assertIs(is_heights(kind, u, v, table), True)
                    for times, more in [(1, 1), (2, 0), (3, 5), (10 ** 50, 10 ** 58)]:
                        higher = {pair: table[pair] * times + more for pair in reversed(list(table))}
                        self.assertIs(is_heights(kind, u, v, higher), True)

    def test_changed_ones_against_the_words(self):
        refused, let = 0, 0
        for kind in KINDS:
            for u, v in standings(kind):
                table = heights(kind, u, v)
                for pair in table or ():
                    for height in range(max(table.values()) + 3):
                        changed = {**table, pair: height}
                        self.assertIs(is_heights(kind, u, v, changed), right(kind, u, v, changed))
                        refused, let = refused + (not right(kind, u, v, changed)), let + right(kind, u, v, changed)
        self.assertGreater(refused, 100)
        self.assertGreater(let, 100)

    def test_alike_standings_have_none(self):
        for table in [{}, {(0, 0): 0}, {pair: 5 for pair in all_pairs(CORE, 0, 1)},
                      {pair: sum(pair) for pair in all_pairs(CORE, 0, 1)}]:
            self.assertIs(is_heights(CORE, 0, 1, table), False)

    def test_a_pair_too_few_or_too_many(self):
        for kind in KINDS:
            for u, v in standings(kind):
                table = heights(kind, u, v)
                if table is None:
                    continue
                for pair in table:
                    self.assertIs(is_heights(kind, u, v, {one: table[one] for one in table if one != pair}), False)
                    fewer = {(one if one != pair else (9, 9)): table[one] for one in table}
                    self.assertIs(is_heights(kind, u, v, fewer), False)
                for extra in [(9, 9), (-1, 0), (u, v, 0), (u,), (), "look", None, 0, b"", ((0, 1),)]:
                    self.assertIs(is_heights(kind, u, v, {**table, extra: 9}), False)

    def test_flags_and_numbers_below_0(self):
        kind = Kind((((0, 2),), ((0, 3),), ((1, 2),), ((2, 3),)), ((),) * 4, ())
        table = {(0, 1): 1, (0, 3): 0, (2, 1): 0, (2, 3): 0}
        self.assertEqual(heights(kind, 0, 1), table)
        self.assertIs(is_heights(kind, 0, 1, {**table, (0, 1): True}), False)
        self.assertIs(is_heights(kind, 0, 1, {**table, (2, 3): False}), False)
        self.assertIs(is_heights(kind, 0, 1, {**table, (2, 3): -1}), False)
        self.assertIs(is_heights(kind, 0, 1, {**table, (0, 1): 2}), True)
        self.assertIs(is_heights(kind, 0, 1, {pair: table[pair] - 1 for pair in table}), False)

    def test_joint_looks_must_fall_and_drifts_must_not_rise(self):
        kind = Kind((((0, 2),), ((0, 3),), ((1, 2),), ((2, 3),)), ((2,), (3,), (), ()), ())
        table = heights(kind, 0, 1)
        self.assertEqual(table, {(0, 1): 1, (0, 3): 0, (2, 1): 0, (2, 3): 0})
        for changed, told in [
                ({(0, 1): 0}, False), ({(2, 3): 1}, False), ({(0, 3): 2}, False), ({(2, 1): 2}, False),
                ({(0, 3): 1}, True), ({(2, 1): 1}, True), ({(0, 3): 1, (2, 1): 1}, True), ({(0, 1): 9}, True),
                ({(0, 1): 9, (2, 3): 9}, False), ({(0, 1): 9, (0, 3): 8, (2, 1): 9, (2, 3): 8}, True)]:
            self.assertIs(is_heights(kind, 0, 1, {**table, **changed}), told, changed)

    def test_other_objects(self):
        for thing in odd_things():
            for kind in [CORE, SLIP]:
                self.assertIs(is_heights(kind, 0, 1, thing), False)
            self.assertIs(is_heights(STILL, 0, 1, thing), thing == {(0, 1): 0} and type(thing) is dict)
            self.assertIs(is_heights(STILL, 0, 1, {(0, 1): thing}), type(thing) is int and thing >= 0)
            self.assertIs(is_heights(STILL, 0, 1, [((0, 1), thing)]), False)

    def test_the_dict_stays(self):
        table = heights(SLIP, 1, 2) or {(0, 1): [3]}
        before = copy.deepcopy(table)
        is_heights(SLIP, 1, 2, table)
        self.assertEqual(table, before)


class Common(unittest.TestCase):
    def test_examples(self):
        self.assertIsNone(common(CORE, 0, 1))
        self.assertIsNone(common_row(CORE, 0, 1))
        self.assertEqual(common(STILL, 0, 1), 0)
        self.assertEqual(common_row(STILL, 0, 1), ())

    def test_number_and_row_agree_with_a_search(self):
        known = set()
        for kind in KINDS:
            for u, v in standings(kind):
                most = greatest_looks(kind, all_pairs(kind, u, v))
                self.assertEqual(common(kind, u, v), most)
                row = common_row(kind, u, v)
                known.add(most)
                if most is None:
                    self.assertIsNone(row)
                    continue
                self.assertIs(type(common(kind, u, v)), int)
                self.assertIs(type(row), tuple)
                self.assertEqual(len(row), most)
                self.assert_row_of_both(kind, u, v, row)
        self.assertTrue({None, 0, 1, 2, 3} <= known, known)

    def assert_row_of_both(self, kind, u, v, row):
        self.assertTrue(after_row(kind, comes(kind, u), row))
        self.assertTrue(after_row(kind, comes(kind, v), row))
        for answer in range(10):
            for longer in [row + (answer,), (answer,) + row]:
                one, two = [after_row(kind, comes(kind, at), longer) for at in (u, v)]
                self.assertFalse(one and two)

    def test_drifts_between_the_common_answers(self):
        # 0 answers 5, then 6 behind a drift; 3 answers both without one.
        kind = Kind(
            (((5, 1),), ((9, 1),), ((6, 1),), ((5, 4),), ((6, 5),), ((8, 5),)), ((), (2,), (), (), (), ()), ())
        self.assertEqual(common(kind, 0, 3), 2)
        self.assertEqual(common_row(kind, 0, 3), (5, 6))
        self.assertEqual(common_row(kind, 3, 0), (5, 6))

    def test_equal_calls_give_equal_answers(self):
        for kind in SAMPLES + (MIST, STAIRS):
            for u, v in standings(kind):
                self.assertEqual(common_row(kind, u, v), common_row(kind, u, v))
                self.assertEqual(heights(kind, u, v), heights(kind, u, v))


if __name__ == "__main__":
    unittest.main()
