"""7.1: moves, traces, follow and cuts_in."""

import collections
import copy
import itertools
import random
import unittest

from lookspoil.errors import NoLayout, NoTrace
from lookspoil.programs import Program
from lookspoil.stores import Store
from lookspoil.traces import cuts_in, follow
from tests.samples import CORE, MIST, STILL, odd_things
from tests.worlds import (
    CANDIDATES, PAIR, SHORT, TORN, all_moves, behind, chain, chance_layout, chance_program, chance_trace, is_cutting,
    some_cases)

# Cell 0 is TORN, cell 1 is MIST, of which 0 drifts to 1 and back, and 2 to itself.
STEPS = (
    ("look", 0, ((0, 1), (1, 1), (2, 2), (3, 3))), ("put", 0, 2, 2), ("look", 1, ((0, 3), (1, 4), (2, 4), (3, 4))),
    ("tell", 0), ("tell", 1))
PROGRAM = Program(PAIR, STEPS)


class Follow(unittest.TestCase):
    def check(self, layout, trace, end):
        found = follow(PROGRAM, layout, trace)
        self.assertEqual((found, type(found)), (end, tuple))

    def test_no_move(self):
        self.check((2, 1), (), (0, (2, 1)))
        self.assertEqual(follow(Program(PAIR, (("tell", 4),)), (0, 0), ()), (0, (0, 0)))

    def test_steps_at_looks(self):
        self.check((0, 0), (("step", 0),), (1, (0, 0)))
        self.check((2, 0), (("step", 0),), (2, (1, 0)))
        self.check((2, 0), (("step", 1),), (3, (2, 0)))

    def test_steps_at_puts(self):
        self.check((1, 2), (("step", 0), ("step", 0)), (2, (0, 2)))

    def test_cuts(self):
        self.check((1, 0), (("cut",),), (0, (1, 0)))
        self.check((1, 0), (("step", 0), ("cut",)), (0, (0, 0)))
        self.check((1, 0), (("cut",), ("cut",), ("step", 0)), (1, (0, 0)))

    def test_spoilt_looks(self):
        self.check((1, 0), (("spoilt", 0),), (0, (0, 0)))
        self.check((2, 0), (("spoilt", 0), ("step", 0)), (1, (0, 0)))
        self.check((0, 1), (("step", 0), ("step", 0), ("spoilt", 1)), (0, (0, 0)))

    def test_torn_puts(self):
        for standing in (0, 1, 2):
            self.check((0, 0), (("step", 0), ("torn", standing)), (0, (standing, 0)))

    def test_drifts(self):
        self.check((1, 0), (("drift", 0, 2),), (0, (2, 0)))
        self.check((1, 0), (("drift", 1, 1), ("drift", 1, 0)), (0, (1, 0)))
        self.check((1, 2), (("drift", 1, 2),), (0, (1, 2)))
        self.check((0, 0), (("step", 0), ("drift", 1, 1)), (1, (0, 1)))
        self.check((0, 0), (("step", 0), ("step", 0), ("drift", 1, 1), ("step", 1)), (4, (0, 0)))

    def test_drifts_and_looks_keep_the_place_and_the_other_cells(self):
        same = Program(Store((CORE, CORE, CORE)), (
            ("look", 1, ((0, 1), (1, 1))), ("look", 2, ((0, 2), (1, 3))), ("tell", 0), ("tell", 1)))
        self.assertEqual(follow(same, (1, 1, 1), (("step", 0),)), (1, (1, 0, 1)))
        self.assertEqual(follow(same, (1, 1, 1), (("step", 0), ("spoilt", 0), ("step", 0))), (1, (1, 0, 0)))

    def test_long_traces(self):
        many = 3000
        trace = (("spoilt", 0), ("drift", 1, 1), ("drift", 1, 0)) * many
        self.check((0, 0), trace, (0, (0, 0)))
        program = chain(Store((STILL,)), 400)
        self.assertEqual(follow(program, (1,), (("step", 0),) * 399), (399, (1,)))
        self.assertEqual(follow(program, (1,), ((("step", 0),) * 398 + (("cut",),)) * 20), (0, (1,)))
        for more in [("step", 0), ("cut",)]:
            with self.assertRaises(NoTrace):
                follow(program, (1,), (("step", 0),) * 399 + (more,))

    def test_by_chance(self):
        chance = random.Random("traces")
        words = collections.Counter()
        for program, _ in some_cases(150, "traces"):
            for _ in range(4):
                layout = chance_layout(chance, program.store)
                trace, end = chance_trace(chance, program, layout, chance.choice((3, 10, 30)))
                self.assertEqual(follow(program, layout, trace), end)
                self.assertEqual(cuts_in(trace), len([move for move in trace if is_cutting(move)]))
                for at, move in enumerate(trace):
                    place, _ = follow(program, layout, trace[:at])
                    words[(program.steps[place][0], move[0])] += 1
        every = [("look", word) for word in ("step", "cut", "spoilt", "drift")]
        every += [("put", word) for word in ("step", "cut", "torn", "drift")]
        self.assertEqual(set(words), set(every))
        self.assertGreater(min(words.values()), 10, words)

    def test_each_move_that_is_none_is_refused(self):
        chance = random.Random("refused")
        refused = set()
        for program, _ in some_cases(60, "refused"):
            layout = chance_layout(chance, program.store)
            trace, (place, now) = chance_trace(chance, program, layout, 4)
            for move in CANDIDATES:
                if behind(program, place, now, move) is None:
                    refused.add((program.steps[place][0], move[0]))
                    with self.assertRaises(NoTrace):
                        follow(program, layout, trace + (move,))
                else:
                    self.assertEqual(follow(program, layout, trace + (move,)), behind(program, place, now, move))
        words = [(word, move) for word in ("look", "put", "tell") for move in ("step", "torn", "spoilt", "drift")]
        self.assertTrue({*words, ("tell", "cut")} <= refused)


class NoTraces(unittest.TestCase):
    def check(self, trace):
        with self.assertRaises(NoTrace, msg=repr(trace)[:300]):
            follow(PROGRAM, (1, 0), trace)

    def test_what_is_handed_in_stays(self):
        for trace in [[("cut",), ["cut"]], (("cut",), ["step", [0]]), {0: [("cut",)]}]:
            before = copy.deepcopy(trace)
            self.check(trace)
            self.assertEqual(trace, before)

    def test_wrong_moves_at_a_look(self):
        for move in [("step", 1), ("step", -1), ("step", False), ("step", None), ("step", "0"), ("step",),
                     ("step", 0, 0), ("step", (0,)), ("spoilt", 1), ("spoilt", False), ("spoilt",), ("spoilt", -1),
                     ("spoilt", 0, 0), ("cut", 0), ("cut", ()), ("torn", 0), ("torn", 1), ("torn",), ("look", 0),
                     ("Step", 0), ("", 0), (b"step", 0), (0,), (), ("step", 10 ** 59), ("put", 0), ("tell", 0)]:
            self.check((move,))
            self.check((("cut",), move))
            self.check((move, ("cut",)))

    def test_wrong_moves_at_a_put(self):
        for move in [("step", 1), ("step", False), ("step", True), ("step",), ("spoilt", 0), ("spoilt", 2),
                     ("torn", 3), ("torn", -1), ("torn", True), ("torn", False), ("torn",), ("torn", 0, 0),
                     ("torn", None), ("torn", "0"), ("torn", (0,)), ("cut", None), ("put", 0)]:
            self.check((("step", 0), move))
        plain = Program(Store((TORN,)), (("put", 0, 1, 2), ("tell", 0), ("put", 0, 0, 3), ("tell", 1)))
        self.assertEqual(follow(plain, (0,), (("step", 0), ("torn", 2))), (0, (2,)))
        for trace in [(("torn", 0),), (("torn", 2),), (("step", 0), ("torn", 1)), (("step", 0), ("step", 1))]:
            with self.assertRaises(NoTrace):
                follow(plain, (0,), trace)

    def test_wrong_drifts(self):
        for move in [("drift", 0, 1), ("drift", 0, 0), ("drift", 1, 0), ("drift", 1, 2), ("drift", 2, 0),
                     ("drift", -1, 1), ("drift", True, 1), ("drift", 1, True), ("drift", False, 2), ("drift", 0),
                     ("drift", 2), ("drift",), ("drift", 0, 2, 0), ("drift", None, 2), ("drift", 0, None),
                     ("drift", (0,), 2), ("drift", "0", 2), ("drift", 0, 10 ** 59), ("drift", 10 ** 59, 0)]:
            self.check((move,))
        self.check((("drift", 1, 1), ("drift", 1, 1)))

    def test_no_move_at_a_tell(self):
        trace = (("step", 0), ("step", 0), ("step", 1))
        self.assertEqual(follow(PROGRAM, (1, 0), trace)[0], 4)
        for move in CANDIDATES:
            self.check(trace + (move,))
        self.check(trace + (None,))
        told = Program(PAIR, (("tell", 0),))
        for move in [("cut",), ("drift", 0, 2), ("step", 0)]:
            with self.assertRaises(NoTrace):
                follow(told, (1, 0), (move,))

    def test_lists_in_place_of_tuples(self):
        self.check([])
        self.check([("cut",)])
        self.check((["cut"],))
        self.check((["step", 0],))
        self.check((("step", 0), ["step", 0]))
        self.check((("step", [0]),))

    def test_other_objects(self):
        for thing in odd_things():
            if thing != () or type(thing) is not tuple:
                self.check(thing)
            for trace in [(thing,), (("cut",), thing), ((thing,),), (("step", thing),), ((thing, 0),),
                          (("drift", thing, 2),), (("drift", 0, thing),), (("spoilt", thing),), (("cut", thing),)]:
                self.check(trace)
            self.check((("step", 0), ("torn", thing)))
            self.check((("step", 0), ("step", thing)))


class NoLayouts(unittest.TestCase):
    def test_what_is_no_layout(self):
        for thing in [(0,), (0, 0, 0), (3, 0), (0, 3), (-1, 0), (0, -1), (True, 0), (0, False), [0, 0], (), None,
                      ("0", 0), (0, None), ((0, 0),), "00", 0] + [thing for thing in odd_things() if thing != (0, 0)]:
            for trace in [(), (("step", 0),), None, [], (("step", 9),), (None,)]:
                with self.assertRaises(NoLayout):
                    follow(PROGRAM, thing, trace)


class CutsIn(unittest.TestCase):
    def test_each_word(self):
        self.assertEqual(cuts_in(()), 0)
        for move, told in [(("step", 0), 0), (("cut",), 1), (("spoilt", 3), 1), (("torn", 7), 1), (("drift", 0, 1), 0)]:
            self.assertEqual(cuts_in((move,)), told)
            self.assertEqual(cuts_in((move,) * 2000), told * 2000)
        for trace in itertools.permutations([("step", 1), ("cut",), ("spoilt", 0), ("torn", 0), ("drift", 1, 1)]):
            self.assertEqual(cuts_in(trace), 3)

    def test_example_trace(self):
        trace = (("spoilt", 0), ("step", 0))
        self.assertEqual(follow(SHORT, (1,), trace), (1, (0,)))
        self.assertEqual(cuts_in(trace), 1)


class Moves(unittest.TestCase):
    def test_the_own_search_knows_moves_of_all_sorts(self):
        self.assertEqual(all_moves(PROGRAM, 0, (2, 0)), [
            ("cut",), ("drift", 1, 1), ("spoilt", 0), ("spoilt", 1), ("step", 0), ("step", 1)])
        self.assertEqual(all_moves(PROGRAM, 1, (1, 2)), [
            ("cut",), ("drift", 0, 2), ("drift", 1, 2), ("step", 0), ("torn", 0), ("torn", 1), ("torn", 2)])
        self.assertEqual(all_moves(PROGRAM, 3, (1, 2)), [])

    def test_equal_calls_give_equal_answers(self):
        chance = random.Random("equal")
        program = chance_program(chance, Store((MIST, TORN)), 8)
        for trace in [(), (("cut",),)]:
            self.assertEqual(follow(program, (0, 0), trace), follow(program, (0, 0), trace))


if __name__ == "__main__":
    unittest.main()
