"""7.2: benches, on which runs are led and taken back."""

import random
import unittest

from lookspoil.benches import Bench
from lookspoil.errors import Ended, NoLayout, NoMove, NoNumber
from lookspoil.programs import Program
from lookspoil.stores import Store
from lookspoil.traces import follow
from tests.samples import CORE, MIST, STILL, odd_things
from tests.worlds import CANDIDATES, PAIR, all_moves, behind, chain, chance_layout, some_cases

STEPS = (
    ("look", 0, ((0, 1), (1, 1), (2, 2), (3, 3))), ("put", 0, 2, 2), ("look", 1, ((0, 3), (1, 4), (2, 4), (3, 4))),
    ("tell", 0), ("tell", 7))
PROGRAM = Program(PAIR, STEPS)
LOOKED = (("step", 0),)
TOLD = (("step", 0), ("step", 0), ("step", 1))


def led(moves, layout=(1, 0), program=PROGRAM):
    bench = Bench(program, layout)
    for move in moves:
        bench.do(move)
    return bench


def state(bench):
    return bench.place, bench.layout(), bench.trace(), bench.moves(), bench.name()


def answer_told(program, here, move):
    """What a look answers, by the words of 7.2."""
    step = program.steps[here[0]]
    if step[0] == "look" and move[0] in ("step", "spoilt"):
        return program.store.kinds[step[1]].looks[here[1][step[1]]][move[1]][0]
    return None


class Leading(unittest.TestCase):
    def test_the_beginning(self):
        bench = Bench(PROGRAM, (2, 0))
        self.assertEqual((bench.place, bench.layout(), bench.trace(), bench.name()), (0, (2, 0), (), None))
        self.assertEqual(bench.moves(), [
            ("cut",), ("drift", 1, 1), ("spoilt", 0), ("spoilt", 1), ("step", 0), ("step", 1)])
        self.assertIn("place", vars(bench))

    def test_all_sorts_of_moves_and_their_answers(self):
        bench = Bench(PROGRAM, (2, 0))
        for move, answer, place, layout in [
                (("spoilt", 0), 2, 0, (1, 0)), (("cut",), None, 0, (1, 0)), (("drift", 0, 2), None, 0, (2, 0)),
                (("drift", 1, 1), None, 0, (2, 1)), (("spoilt", 1), 3, 0, (2, 1)), (("spoilt", 0), 2, 0, (1, 1)),
                (("step", 0), 1, 1, (0, 1)), (("torn", 2), None, 0, (2, 1)), (("step", 0), 2, 2, (1, 1)),
                (("cut",), None, 0, (1, 1)), (("step", 0), 1, 1, (0, 1)), (("step", 0), None, 2, (0, 1)),
                (("drift", 1, 0), None, 2, (0, 0)), (("step", 0), 0, 3, (0, 0))]:
            before = bench.trace()
            self.assertEqual(bench.do(move), answer)
            self.assertEqual((bench.place, bench.layout()), (place, layout))
            self.assertEqual(bench.trace(), before + (move,))
            self.assertEqual(bench.name(), 0 if place == 3 else None)
        self.assertEqual(bench.moves(), [])
        self.assertEqual(follow(PROGRAM, (2, 0), bench.trace()), (3, (0, 0)))

    def test_the_kinds_of_what_is_returned(self):
        bench = led(LOOKED)
        self.assertEqual([type(bench.place), type(bench.layout()), type(bench.trace()), type(bench.moves())],
                         [int, tuple, tuple, list])
        self.assertEqual(led(TOLD).name(), 7)

    def test_the_moves_are_a_new_list_each_time(self):
        bench = led(LOOKED)
        bench.moves().clear()
        self.assertEqual(bench.moves(), all_moves(PROGRAM, 1, (0, 0)))

    def test_by_chance(self):
        chance = random.Random("benches")
        done, ended = set(), 0
        for program, _ in some_cases(120, "benches"):
            layout = chance_layout(chance, program.store)
            bench, here, trace = Bench(program, layout), (0, layout), ()
            for _ in range(12):
                every = all_moves(program, *here)
                self.assertEqual(bench.moves(), every)
                self.assertEqual(bench.moves(), sorted(every))
                self.assertEqual((bench.place, bench.layout(), bench.trace()), (*here, trace))
                tells = program.steps[here[0]][0] == "tell"
                self.assertEqual(bench.name(), program.steps[here[0]][1] if tells else None)
                if not every:
                    ended += 1
                    break
                move = chance.choice(every)
                done.add((program.steps[here[0]][0], move[0]))
                self.assertEqual(repr(bench.do(move)), repr(answer_told(program, here, move)))
                trace, here = trace + (move,), behind(program, *here, move)
        self.assertEqual(len(done), 8, done)
        self.assertGreater(ended, 20)

    def test_a_long_run(self):
        program = chain(Store((STILL,)), 400, 3)
        bench = led((("step", 0),) * 398 + (("cut",),) + (("step", 0),) * 399, (1,), program)
        self.assertEqual((bench.place, bench.name(), len(bench.trace())), (399, 3, 798))
        bench.back(399)
        self.assertEqual((bench.place, bench.name(), len(bench.trace())), (0, None, 399))
        bench.back(2)
        self.assertEqual((bench.place, len(bench.trace())), (397, 397))
        for _ in range(5000):
            bench.do(("cut",))
        bench.back(5397)
        self.assertEqual(state(bench), state(Bench(program, (1,))))


class Errors(unittest.TestCase):
    def test_no_layout(self):
        for thing in [(0,), (0, 0, 0), (3, 0), (0, 3), (-1, 0), (True, 0), (0, False), [0, 0], (), None, "00"]:
            with self.assertRaises(NoLayout):
                Bench(PROGRAM, thing)
        for thing in odd_things():
            if thing != (0, 0):
                with self.assertRaises(NoLayout):
                    Bench(PROGRAM, thing)
            with self.assertRaises(NoLayout):
                Bench(PROGRAM, (0, thing))

    def refuse(self, bench, error, move):
        before = state(bench)
        with self.assertRaises(error, msg=repr(move)[:300]):
            bench.do(move)
        self.assertEqual(state(bench), before)

    def test_no_move(self):
        for moves in [(), LOOKED, (("step", 0), ("step", 0))]:
            bench = led(moves)
            for move in CANDIDATES:
                if behind(PROGRAM, bench.place, bench.layout(), move) is None:
                    self.refuse(bench, NoMove, move)
            for move in odd_things() + [
                    ["cut"], ("cut", 0), ("step", False), ("step", -1), ("step",), ("step", 0, 0), ("torn", True),
                    ("drift", 1, True), ("spoilt", False), ("drift", True, 1), ("look", 0), ("put", 0), (("cut",),)]:
                self.refuse(bench, NoMove, move)
            for thing in odd_things():
                for move in [("step", thing), (thing, 0), ("torn", thing), ("spoilt", thing), ("drift", 1, thing)]:
                    self.refuse(bench, NoMove, move)

    def test_ended_ahead_of_no_move(self):
        bench = led(TOLD)
        for move in CANDIDATES + odd_things():
            self.refuse(bench, Ended, move)
        bench = Bench(Program(PAIR, (("tell", 3),)), (1, 1))
        self.assertEqual((bench.name(), bench.moves()), (3, []))
        for move in [("cut",), ("step", 0), ("drift", 0, 2), None]:
            self.refuse(bench, Ended, move)


class Back(unittest.TestCase):
    def test_each_number(self):
        moves = (("spoilt", 0), ("drift", 1, 1), ("step", 0), ("torn", 1), ("step", 0), ("step", 0), ("step", 1))
        for many in range(1, 8):
            bench = led(moves)
            self.assertEqual((bench.name(), bench.moves()), (7, []))
            self.assertIsNone(bench.back(many))
            self.assertEqual(state(bench), state(led(moves[:-many])))
            for move in moves[-many:]:
                bench.do(move)
            self.assertEqual(state(bench), state(led(moves)))

    def test_one_behind_another(self):
        bench = led(TOLD)
        for left in (2, 1, 0):
            bench.back(1)
            self.assertEqual(state(bench), state(led(TOLD[:left])))
        with self.assertRaises(NoNumber):
            bench.back(1)

    def test_no_number(self):
        for moves in [(), LOOKED, TOLD]:
            bench = led(moves)
            before = state(bench)
            for many in [0, -1, len(moves) + 1, 10 ** 59, -(10 ** 59), True, False, None, "1", (1,), [1], b"1"]:
                with self.assertRaises(NoNumber):
                    bench.back(many)
            for many in odd_things():
                with self.assertRaises(NoNumber):
                    bench.back(many)
            self.assertEqual(state(bench), before)


class Copy(unittest.TestCase):
    def test_both_go_apart(self):
        for moves in [(), LOOKED, TOLD[:2]]:
            bench = led(moves)
            other = bench.copy()
            self.assertIsInstance(other, Bench)
            self.assertEqual(state(other), state(bench))
            before = state(bench)
            other.do(("cut",))
            self.assertEqual(state(bench), before)
            bench.do(("drift", 1, 1))
            bench.do(("cut",))
            self.assertEqual(state(other), state(led(moves + (("cut",),))))

    def test_a_copy_is_taken_back_likewise(self):
        for bench in [led(TOLD), led(TOLD).copy()]:
            other = bench.copy()
            other.back(2)
            self.assertEqual(state(other), state(led(LOOKED)))
            self.assertEqual(state(bench), state(led(TOLD)))
            bench.back(3)
            self.assertEqual(state(bench), state(led(())))
            self.assertEqual(state(other), state(led(LOOKED)))
            with self.assertRaises(NoNumber):
                other.back(2)
            other.back(1)
            self.assertEqual(state(other), state(bench))


class Trying(unittest.TestCase):
    def check(self, moves, action, told):
        bench = led(moves)
        self.assertEqual(bench.trying(action), told)
        self.assertEqual(state(bench), state(led(moves)))
        for many in range(len(moves)):
            bench.back(1)
            self.assertEqual(state(bench), state(led(moves[:len(moves) - many - 1])))

    def test_an_action_that_does_nothing_is_told_of_the_bench(self):
        bench = led(LOOKED)
        self.assertIs(bench.trying(lambda told: told), bench)
        self.assertIsNone(bench.trying(lambda told: None))

    def test_an_action_that_goes_on(self):
        self.check(LOOKED, lambda bench: [bench.do(("torn", 1)), bench.do(("step", 0)), bench.place], [None, 1, 1])
        self.check((), lambda bench: (bench.do(("spoilt", 0)), bench.layout()), (1, (0, 0)))

    def test_an_action_that_ends(self):
        self.check(LOOKED, lambda bench: (bench.do(TOLD[1]), bench.do(TOLD[2]), bench.name(), bench.moves()),
                   (None, 1, 7, []))

    def test_an_action_that_takes_more_back(self):
        def action(bench):
            bench.do(("cut",))
            bench.back(3)
            bench.do(("drift", 1, 1))
            bench.do(("cut",))
            return bench.trace()
        self.check(TOLD[:2], action, (("drift", 1, 1), ("cut",)))
        self.check(TOLD, lambda bench: (bench.back(3), bench.place), (None, 0))

    def test_an_action_that_raises(self):
        def action(bench):
            bench.back(1)
            bench.do(("drift", 1, 1))
            raise KeyError("action")
        bench = led(TOLD[:2])
        with self.assertRaises(KeyError) as caught:
            bench.trying(action)
        self.assertEqual(caught.exception.args, ("action",))
        self.assertEqual(state(bench), state(led(TOLD[:2])))
        with self.assertRaises(NoMove):
            bench.trying(lambda told: [told.do(("step", 0)), told.back(2), told.do(("torn", 9))])
        self.assertEqual(state(bench), state(led(TOLD[:2])))
        with self.assertRaises(Ended):
            bench.trying(lambda told: [told.do(("step", 1)), told.do(("cut",))])
        with self.assertRaises(NoNumber):
            bench.trying(lambda told: [told.back(2), told.back(1)])
        self.assertEqual(state(bench), state(led(TOLD[:2])))

    def test_one_in_another(self):
        def inner(bench):
            bench.back(1)
            bench.do(("cut",))
            return bench.place

        def outer(bench):
            bench.do(("step", 0))
            told = bench.trying(inner)
            return told, bench.place, bench.trace(), bench.do(("step", 1))
        self.check(LOOKED, outer, (0, 2, TOLD[:2], 1))

    def test_copies_that_an_action_makes_stay(self):
        kept = []
        bench = led(LOOKED)
        bench.trying(lambda told: [told.do(("step", 0)), kept.append(told.copy())])
        self.assertEqual(state(kept[0]), state(led(TOLD[:2])))
        kept[0].back(2)
        self.assertEqual(state(bench), state(led(LOOKED)))


class Others(unittest.TestCase):
    def test_a_bench_is_equal_to_no_other_thing(self):
        bench = led(())
        for thing in odd_things() + [PROGRAM, PAIR]:
            self.assertIs(bench == thing, False)

    def test_two_benches_of_one_program(self):
        one, two = Bench(PROGRAM, (1, 0)), Bench(PROGRAM, (1, 0))
        one.do(("cut",))
        self.assertEqual(two.trace(), ())

    def test_moves_are_ascending_with_drifts_of_many_cells(self):
        program = Program(Store((MIST, CORE, MIST)), (("look", 2, ((0, 1), (1, 1), (2, 1), (3, 1))), ("tell", 0)))
        self.assertEqual(Bench(program, (1, 1, 0)).moves(), [
            ("cut",), ("drift", 0, 0), ("drift", 2, 1), ("spoilt", 0), ("spoilt", 1), ("step", 0), ("step", 1)])


if __name__ == "__main__":
    unittest.main()
