"""1.1: kinds, right and wrong ones, and when they are equal."""

import unittest
from unittest import mock

from lookspoil.errors import BadKind
from lookspoil.kinds import Kind
from tests.samples import SAMPLES, odd_things

LOOKS = (((0, 0), (1, 1)), ((2, 0),), ((0, 2),))
DRIFTS = ((), (0, 2), (1,))
PUTS = ((0, ()), (2, (0, 1, 2)))


def outcomes(*told):
    """Looks of two standings, the first of them with these outcomes."""
    return (told, ((0, 0),))


BAD_OUTCOMES = [
    [(0, 0)], (), ([0, 0],), ((0,),), ((0, 0, 0),), (0, 0), ((-1, 0),), ((10, 0),), ((0, -1),), ((0, 3),),
    ((True, 0),), ((0, True),), ((False, 0),), ((0, False),), (("0", 0),), ((0, "0"),), ((0, None),), ((None, 0),),
    ((0, 0), (0, 0)), ((1, 0), (0, 0)), ((0, 1), (0, 0)), ((0, 0), (1, 0), (1, 0)), ((0, 0), (2, 0), (1, 1)),
    ((0, 0), (0, 1), (0, 2), (1, 0), (1, 1)), ((0, 0), None), ((0, 0), (True, 1)), ((0, 0), [1, 1]),
    (b"\x00\x01",), (range(2),), (((0,), 0),), ((0, (0,)),), (("look", 0),), "00", b"00", range(2), {0: 0},
]

BAD_STANDINGS = [
    [0], None, 0, (-1,), (3,), (True,), (False,), ("0",), (None,), ((0,),), ([0],), (0, 0), (1, 0), (0, 1, 1),
    (0, 2, 1), (0, 1, 2, 2), (0, 1, 2, 3), (0, True), range(2), b"\x00", "0", {0: 0}, [], (10 ** 59,),
]


class RightKinds(unittest.TestCase):
    def test_parts_are_kept(self):
        kind = Kind(LOOKS, DRIFTS, PUTS)
        self.assertEqual((kind.looks, kind.drifts, kind.puts, kind.size), (LOOKS, DRIFTS, PUTS, 3))
        self.assertEqual(set(vars(kind)), {"looks", "drifts", "puts", "size"})

    def test_one_to_eight_standings(self):
        for size in range(1, 9):
            looks = tuple(((9, size - 1),) for _ in range(size))
            drifts = (tuple(range(size)),) * size
            puts = ((size - 1, tuple(range(size))),) * 4
            kind = Kind(looks, drifts, puts)
            self.assertEqual((kind.looks, kind.drifts, kind.puts, kind.size), (looks, drifts, puts, size))
            self.assertIs(type(kind.size), int)

    def test_one_to_four_outcomes(self):
        told = ((0, 0), (0, 1), (5, 0), (9, 1))
        for many in range(1, 5):
            self.assertEqual(Kind(outcomes(*told[:many]), ((), ()), ()).looks[0], told[:many])

    def test_none_to_four_puts_perhaps_alike(self):
        for many in range(5):
            self.assertEqual(Kind(LOOKS, DRIFTS, ((1, (1,)),) * many).puts, ((1, (1,)),) * many)


class WrongKinds(unittest.TestCase):
    def bad(self, part, looks, drifts, puts):
        with self.assertRaises(BadKind) as caught:
            Kind(looks, drifts, puts)
        self.assertEqual(caught.exception.part, part, (looks, drifts, puts))

    def test_looks(self):
        self.bad("looks", (), (), ())
        self.bad("looks", (((0, 0),),) * 9, ((),) * 9, ())
        self.bad("looks", list(LOOKS), DRIFTS, PUTS)
        for told in BAD_OUTCOMES:
            self.bad("looks", (told, ((0, 0),), ((0, 0),)), DRIFTS, PUTS)
            self.bad("looks", (((0, 0),), ((0, 0),), told), DRIFTS, PUTS)

    def test_drifts(self):
        self.bad("drifts", LOOKS, DRIFTS[:2], PUTS)
        self.bad("drifts", LOOKS, DRIFTS + ((),), PUTS)
        self.bad("drifts", LOOKS, (), PUTS)
        self.bad("drifts", LOOKS, list(DRIFTS), PUTS)
        for goals in BAD_STANDINGS:
            self.bad("drifts", LOOKS, (goals, (), ()), PUTS)
            self.bad("drifts", LOOKS, ((), (), goals), PUTS)

    def test_puts(self):
        self.bad("puts", LOOKS, DRIFTS, ((0, ()),) * 5)
        self.bad("puts", LOOKS, DRIFTS, list(PUTS))
        for goals in BAD_STANDINGS:
            self.bad("puts", LOOKS, DRIFTS, ((0, goals),))
            self.bad("puts", LOOKS, DRIFTS, (PUTS[0], (0, goals)))
        for goal in [-1, 3, True, False, None, "0", (0,), [0], 10 ** 59]:
            self.bad("puts", LOOKS, DRIFTS, ((goal, ()),))
        for put in [[0, ()], (0,), (), (0, (), ()), 0, None, "0", range(2)]:
            self.bad("puts", LOOKS, DRIFTS, (put,))

    def test_the_first_wrong_part_is_told(self):
        self.bad("looks", None, None, None)
        self.bad("looks", (), DRIFTS, None)
        self.bad("looks", LOOKS[:1], DRIFTS, PUTS)
        self.bad("drifts", LOOKS, None, None)
        self.bad("drifts", LOOKS, ((3,), (), ()), ((3, ()),))
        self.bad("puts", LOOKS, DRIFTS, None)

    def test_other_objects_anywhere(self):
        for thing in odd_things():
            self.bad("looks", thing, DRIFTS, PUTS)
            self.bad("drifts", LOOKS, thing, PUTS)
            self.bad("looks", (LOOKS[0], thing, LOOKS[2]), DRIFTS, PUTS)
            if thing != (0, 0):
                self.bad("looks", (LOOKS[0], (thing,), LOOKS[2]), DRIFTS, PUTS)
            if thing != ():
                self.bad("puts", LOOKS, DRIFTS, thing)
            if type(thing) is not tuple or thing not in ((), (0,)):
                self.bad("drifts", LOOKS, (thing, (), ()), PUTS)
                self.bad("puts", LOOKS, DRIFTS, ((0, thing),))
            self.bad("looks", outcomes((thing, 0)), ((), ()), ())
            self.bad("looks", outcomes((0, thing)), ((), ()), ())
            self.bad("drifts", LOOKS, ((thing,), (), ()), PUTS)
            self.bad("puts", LOOKS, DRIFTS, (thing,))
            self.bad("puts", LOOKS, DRIFTS, ((thing, ()),))
            self.bad("puts", LOOKS, DRIFTS, ((0, (thing,)),))


class EqualKinds(unittest.TestCase):
    def test_equal_by_the_three_parts(self):
        self.assertTrue(Kind(LOOKS, DRIFTS, PUTS) == Kind(LOOKS, DRIFTS, PUTS))
        self.assertFalse(Kind(LOOKS, DRIFTS, PUTS) != Kind(LOOKS, DRIFTS, PUTS))
        others = [Kind(LOOKS[:2] + (((1, 2),),), DRIFTS, PUTS), Kind(LOOKS, ((), (0, 2), ()), PUTS),
                  Kind(LOOKS, DRIFTS, PUTS[:1])]
        for other in others:
            self.assertFalse(Kind(LOOKS, DRIFTS, PUTS) == other)
            self.assertTrue(Kind(LOOKS, DRIFTS, PUTS) != other)

    def test_each_sample_equals_itself_alone(self):
        for at, kind in enumerate(SAMPLES):
            again = Kind(kind.looks, kind.drifts, kind.puts)
            self.assertEqual([other == again for other in SAMPLES], [at == to for to in range(len(SAMPLES))])

    def test_equal_to_no_other_thing(self):
        kind = Kind(LOOKS, DRIFTS, PUTS)
        twin = mock.Mock(looks=LOOKS, drifts=DRIFTS, puts=PUTS, size=3)
        for thing in odd_things() + [LOOKS, (LOOKS, DRIFTS, PUTS), twin]:
            self.assertIs(kind == thing, False)
            self.assertIs(kind != thing, True)


if __name__ == "__main__":
    unittest.main()
