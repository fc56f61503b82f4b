"""3.3: likenesses and the first fact; example e04."""

import copy
import itertools
import unittest

from lookspoil.errors import NoStanding
from lookspoil.kinds import Kind
from lookspoil.likenesses import is_likeness, likeness
from lookspoil.pairs import apart, heights
from tests.samples import CORE, FOG, MIST, STILL, WHEEL, all_pairs, greatest_looks, many_kinds, odd_things

KINDS = many_kinds()
# 0 and 1 both look, 2 and 3 drift, and a look of either changes what drifts it has.
BOTH = Kind(
    (((5, 1),), ((6, 0), (7, 0)), ((5, 3), (8, 2)), ((7, 2),)), ((), (0, 1), (3,), (2,)), ())
LOOK = ("look", 0)
TOGETHER = ("both", 0, 0)


def standings(kind):
    return list(itertools.product(range(kind.size), repeat=2))


def walk(kind, at, way):
    """Where a way leads, None where it is none: by the words of 1.2."""
    for word, number in way:
        if word == "look" and number < len(kind.looks[at]):
            at = kind.looks[at][number][1]
        elif word == "drift" and number in kind.drifts[at]:
            at = number
        else:
            return None
    return at


def walk_both(kind, s, t, ring):
    """Where steps of 3.1 lead, None where they are none."""
    for step in ring:
        if step[0] == "both":
            (one, s), (two, t) = kind.looks[s][step[1]], kind.looks[t][step[2]]
            if one != two:
                return None
        elif step[0] == "first" and step[1] in kind.drifts[s]:
            s = step[1]
        elif step[0] == "second" and step[1] in kind.drifts[t]:
            t = step[1]
        else:
            return None
    return s, t


class Likeness(unittest.TestCase):
    def test_there_exactly_where_the_standings_are_alike(self):
        looked, drifted, ahead = 0, 0, 0
        for kind in KINDS + [BOTH]:
            for u, v in standings(kind):
                told = likeness(kind, u, v)
                if greatest_looks(kind, all_pairs(kind, u, v)) is not None:
                    self.assertIsNone(told)
                    continue
                one, two, ring = told
                self.assertEqual({type(told), type(one), type(two), type(ring)}, {tuple})
                s, t = walk(kind, u, one), walk(kind, v, two)
                self.assertIn((s, t), all_pairs(kind, u, v))
                self.assertEqual(walk_both(kind, s, t, ring), (s, t))
                self.assertIn("both", [step[0] for step in ring])
                self.assertIs(is_likeness(kind, u, v, told), True)
                words = [step[0] for step in ring]
                looked, drifted = looked + words.count("both"), drifted + len(words) - words.count("both")
                ahead += len(one) + len(two)
        self.assertTrue(looked > 100 and drifted > 20 and ahead > 50, (looked, drifted, ahead))

    def test_the_first_fact(self):
        for kind in KINDS + [BOTH]:
            for u, v in standings(kind):
                self.assertNotEqual(heights(kind, u, v) is None, likeness(kind, u, v) is None)
                self.assertEqual(likeness(kind, u, v) is None, apart(kind, u, v))

    def test_equal_calls_give_equal_answers(self):
        for kind in KINDS[:20]:
            for u, v in standings(kind):
                self.assertEqual(likeness(kind, u, v), likeness(kind, u, v))

    def test_no_standing_for_either(self):
        for thing in [-1, 2, 10 ** 59, True, False, None, "0", (0,), [0]] + odd_things():
            for u, v in [(thing, 0), (0, thing), (thing, thing)]:
                with self.assertRaises(NoStanding):
                    likeness(CORE, u, v)
                for paper in [((), (LOOK,), (TOGETHER,)), None]:
                    with self.assertRaises(NoStanding):
                        is_likeness(CORE, u, v, paper)


class IsLikeness(unittest.TestCase):
    def judge(self, kind, u, v, thing, told):
        before = repr(thing)[:20000]
        self.assertIs(is_likeness(kind, u, v, thing), told, before[:300])
        self.assertEqual(repr(thing)[:20000], before)

    def test_example(self):
        self.judge(CORE, 0, 1, ((), (LOOK,), (TOGETHER,)), True)

    def test_other_right_ones(self):
        self.judge(CORE, 1, 0, ((LOOK,), (), (TOGETHER,)), True)
        self.judge(CORE, 1, 1, ((LOOK,), (LOOK, LOOK), (TOGETHER,) * 4), True)
        self.judge(CORE, 0, 1, ((LOOK,) * 50, (LOOK,) * 50, (TOGETHER,) * 3000), True)
        self.judge(WHEEL, 0, 1, ((LOOK,), (), (TOGETHER,) * 3), True)
        self.judge(WHEEL, 0, 1, ((), (LOOK, LOOK), (TOGETHER,) * 6), True)
        self.judge(MIST, 0, 1, ((), (("drift", 0),), (TOGETHER,)), True)
        self.judge(MIST, 0, 1, ((), (), (("second", 0), TOGETHER, ("second", 1))), True)
        self.judge(MIST, 1, 0, ((), (), (("first", 0), TOGETHER, ("first", 1))), True)
        self.judge(MIST, 0, 2, ((("look", 1),), (("drift", 2),), (("first", 2), ("second", 2), TOGETHER)), True)
        self.judge(BOTH, 1, 1, ((), (), (("both", 0, 0), TOGETHER)), True)
        self.judge(BOTH, 1, 1, ((), (), (("both", 1, 1), TOGETHER)), True)
        self.judge(BOTH, 0, 2, ((), (), (TOGETHER, ("both", 1, 0))), True)

    def test_wrong_ways(self):
        for way in [(("look", 1),), (("look", -1),), (("look", True),), (("look", False),), (("drift", 0),), [LOOK],
                    [], (["look", 0],), ("look", 0), None, 0, "", (TOGETHER,), (LOOK, None), ((LOOK,),), (("look",),),
                    (("look", 0, 0),), {}, (("look", "0"),), range(0)]:
            self.judge(CORE, 0, 0, ((), way, (TOGETHER,)), False)
            self.judge(CORE, 0, 0, (way, (), (TOGETHER,)), False)
            self.judge(CORE, 0, 0, (way, way, (TOGETHER,)), False)
        self.judge(CORE, 0, 0, ((LOOK,), (LOOK,), (TOGETHER,)), True)
        self.judge(MIST, 0, 1, ((), (("drift", False),), (TOGETHER,)), False)
        self.judge(MIST, 0, 1, ((), (("drift", 2),), (TOGETHER,)), False)

    def test_ways_that_lead_elsewhere(self):
        self.judge(CORE, 0, 1, ((), (), (TOGETHER,)), False)
        self.judge(WHEEL, 0, 1, ((), (), (TOGETHER,) * 3), False)
        self.judge(WHEEL, 0, 1, ((LOOK,), (LOOK,), (TOGETHER,) * 3), False)

    def test_rings_that_do_not_close_or_have_no_joint_look(self):
        self.judge(WHEEL, 0, 0, ((), (), (TOGETHER,)), False)
        self.judge(WHEEL, 0, 0, ((), (), (TOGETHER,) * 2), False)
        self.judge(WHEEL, 0, 0, ((), (), (TOGETHER,) * 4), False)
        self.judge(WHEEL, 0, 0, ((), (), ()), False)
        self.judge(MIST, 0, 1, ((), (), ()), False)
        self.judge(MIST, 0, 1, ((), (), (("first", 1), ("first", 0))), False)
        self.judge(MIST, 2, 2, ((), (), (("first", 2), ("second", 2))), False)
        self.judge(MIST, 0, 1, ((), (), (("second", 0), TOGETHER)), False)
        self.judge(MIST, 0, 1, ((), (), (("second", 0), TOGETHER, ("first", 1))), False)

    def test_wrong_steps_in_the_ring(self):
        for step in [("both", 0), ("both", 0, 0, 0), ("both", False, 0), ("both", 0, False), ("both", 1, 1),
                     ("both", 0, 1), ("both", 1, 0), ("both", -1, -1), ("both", None, 0), ["both", 0, 0], "both",
                     ("look", 0), ("first", 0), ("second", 0), ("first", 1), ("Both", 0, 0), (b"both", 0, 0), (), None,
                     ("drift", 0), (CORE, 0, 0), ("both", (0,), 0), 0, (0, 0, "both"), ("both",)]:
            self.judge(CORE, 0, 0, ((), (), (step,)), False)
            self.judge(CORE, 0, 0, ((), (), (TOGETHER, step)), False)
            self.judge(CORE, 0, 0, ((), (), (step, TOGETHER)), False)
        for step in [("first", True), ("first", 1, 1), ("first",), ("second", 1), ("first", 2), ("first", 0)]:
            self.judge(MIST, 0, 0, ((), (), (step, ("first", 0), TOGETHER)), False)
        self.judge(MIST, 0, 0, ((), (), (("first", 1), ("first", 0), TOGETHER)), True)
        # Both looks are there, but with unlike answers.
        self.judge(BOTH, 1, 1, ((), (), (("both", 0, 1), TOGETHER)), False)
        self.judge(BOTH, 1, 1, ((), (), (("both", True, 1), TOGETHER)), False)

    def test_lists_in_place_of_tuples(self):
        self.judge(CORE, 0, 1, [(), (LOOK,), (TOGETHER,)], False)
        self.judge(CORE, 0, 1, ([], (LOOK,), (TOGETHER,)), False)
        self.judge(CORE, 0, 1, ((), [LOOK], (TOGETHER,)), False)
        self.judge(CORE, 0, 1, ((), (list(LOOK),), (TOGETHER,)), False)
        self.judge(CORE, 0, 1, ((), (LOOK,), [TOGETHER]), False)
        self.judge(CORE, 0, 1, ((), (LOOK,), (list(TOGETHER),)), False)

    def test_no_triples(self):
        for thing in [(), ((),), ((), (LOOK,)), ((), (LOOK,), (TOGETHER,), ()), ((), (LOOK,), (TOGETHER,), None),
                      {0: (), 1: (LOOK,), 2: (TOGETHER,)}, "abc", b"abc", range(3), None]:
            self.judge(CORE, 0, 1, thing, False)

    def test_standings_that_are_apart_have_none(self):
        for ring in [(), (TOGETHER,), (("both", 0, 1),), (("first", 0),)]:
            self.judge(STILL, 0, 1, ((), (), ring), False)
        self.judge(FOG, 0, 1, ((LOOK,), (LOOK,), (("first", 4),)), False)

    def test_other_objects(self):
        right = [repr(one) for one in [
            ((), (LOOK,), (TOGETHER,)), ((LOOK,), (LOOK,), (TOGETHER,)), ((), (LOOK,), (TOGETHER,) * 2)]]
        for thing in odd_things():
            for told in [thing, (thing, (LOOK,), (TOGETHER,)), ((), thing, (TOGETHER,)), ((), (LOOK,), thing),
                         ((), (LOOK,), (thing,)), ((), (LOOK,), (TOGETHER, thing)), ((thing,), (LOOK,), (TOGETHER,)),
                         ((), (("look", thing),), (TOGETHER,)), ((), (LOOK,), (("both", thing, 0),)),
                         ((), (LOOK,), (("both", 0, thing),)), ((), (LOOK,), ((thing, 0, 0),)),
                         ((), ((thing, 0),), (TOGETHER,)), (thing, thing, thing)]:
                # By their texts: False equals 0, but is no number of a look.
                self.assertIs(is_likeness(CORE, 0, 1, told), repr(told) in right)

    def test_what_is_handed_in_stays(self):
        thing = ((), [LOOK], ([TOGETHER], {"a": [1]}))
        before = copy.deepcopy(thing)
        is_likeness(CORE, 0, 1, thing)
        self.assertEqual(thing, before)


if __name__ == "__main__":
    unittest.main()
