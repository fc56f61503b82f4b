"""6.1: programs, right and wrong ones, when they are equal, and has_puts."""

import random
import unittest
from unittest import mock

from lookspoil.errors import BadProgram
from lookspoil.kinds import Kind
from lookspoil.programs import Program, has_puts
from lookspoil.stores import Book, Store
from tests.samples import CORE, MIST, STILL, WHEEL, odd_things
from tests.worlds import TORN, chain, chance_program, chance_store, with_put_in

# TORN answers 0 to 3 and has the marks 0 to 2, CORE answers 0 and 1 and has the marks 0 and 1, WHEEL has no marks.
STORE = Store((TORN, CORE, WHEEL))
STEPS = (
    ("look", 0, ((0, 1), (1, 2), (2, 4), (3, 4))), ("put", 1, 1, 3), ("look", 2, ((0, 3), (1, 4))), ("tell", 11),
    ("look", 1, ((0, 5), (1, 5))), ("tell", 0))


class RightPrograms(unittest.TestCase):
    def test_store_and_steps_are_kept(self):
        made = Program(STORE, STEPS)
        self.assertEqual((made.store, made.steps), (STORE, STEPS))
        self.assertEqual(set(vars(made)), {"store", "steps"})

    def test_one_to_four_hundred_steps(self):
        for size in (1, 2, 3, 50, 399, 400):
            made = chain(STORE, size)
            self.assertEqual(len(made.steps), size)
            self.assertEqual(made.steps[-1], ("tell", 0))

    def test_each_name_from_0_to_11(self):
        for name in range(12):
            self.assertEqual(Program(STORE, (("tell", name),)).steps, (("tell", name),))

    def test_tells_anywhere_and_places_that_nothing_leads_to(self):
        steps = (("tell", 3), ("look", 1, ((0, 4), (1, 2))), ("tell", 1), ("put", 0, 2, 4), ("tell", 2))
        self.assertEqual(Program(STORE, steps).steps, steps)

    def test_answers_in_some_standing_are_enough(self):
        # SEEN answers 0 only in standing 1, which nothing leads to; it needs a goal all the same.
        seen = Store((Kind((((7, 0),), ((0, 0), (9, 0))), ((), ()), ()),))
        steps = (("look", 0, ((0, 1), (7, 1), (9, 1))), ("tell", 0))
        self.assertEqual(Program(seen, steps).steps, steps)
        for goals in [((7, 1),), ((0, 1), (7, 1)), ((7, 1), (9, 1))]:
            with self.assertRaises(BadProgram):
                Program(seen, (("look", 0, goals), ("tell", 0)))

    def test_programs_by_chance(self):
        chance = random.Random("programs")
        for _ in range(200):
            store = chance_store(chance, [CORE, STILL, WHEEL, TORN, MIST])
            made = chance_program(chance, store, chance.randint(1, 30), range(12))
            self.assertTrue(made == Program(store, made.steps))


class WrongPrograms(unittest.TestCase):
    def check(self, steps, part):
        with self.assertRaises(BadProgram, msg=repr(steps)[:300]) as caught:
            Program(STORE, steps)
        self.assertEqual((caught.exception.part, type(caught.exception.part)), (part, type(part)), repr(steps)[:300])

    def wrong_at(self, at, thing):
        self.check(with_put_in(STEPS, at, thing), at)

    def test_what_is_no_tuple_of_1_to_400_things(self):
        for thing in [(), [], list(STEPS), None, "steps", b"steps", 0, {}, {0: ("tell", 0)}, range(3), STORE, Program,
                      chain(STORE, 400).steps + (("tell", 0),), (None,) * 401, (("tell", 0),) * 401,
                      [("tell", 0)], Program(STORE, STEPS), True]:
            self.check(thing, "steps")
        for thing in odd_things():
            self.check(thing, 0 if type(thing) is tuple and 1 <= len(thing) <= 400 else "steps")

    def test_another_word(self):
        for word in ["Look", "LOOK", "looks", "", "step", "cut", b"look", 0, None, ("look",), ["look"], "tell", "put"]:
            self.wrong_at(0, (word,) + STEPS[0][1:])
        for word in ["look", "tell", "puts", b"put", 1]:
            self.wrong_at(1, (word,) + STEPS[1][1:])
        for word in ["look", "put", "told", b"tell", None]:
            self.wrong_at(3, (word, 11))

    def test_too_short_and_too_long(self):
        for at in (0, 1, 3):
            for many in range(len(STEPS[at])):
                self.wrong_at(at, STEPS[at][:many])
            self.wrong_at(at, STEPS[at] + (0,))
            self.wrong_at(at, STEPS[at] + (None, 4))

    def test_lists_in_place_of_tuples(self):
        for at in (0, 1, 3):
            self.wrong_at(at, list(STEPS[at]))
        self.wrong_at(0, ("look", 0, list(STEPS[0][2])))
        self.wrong_at(0, ("look", 0, ((0, 1), [1, 2], (2, 4), (3, 4))))
        self.wrong_at(0, ("look", 0, dict(STEPS[0][2])))

    def test_no_cell(self):
        for cell in [3, -1, True, False, None, "0", (0,), 10 ** 59]:
            self.wrong_at(0, ("look", cell, STEPS[0][2]))
            self.wrong_at(1, ("put", cell, 1, 3))
        self.wrong_at(0, ("look", 1, STEPS[0][2]))
        self.check((("look", False, STEPS[0][2]),) + STEPS[1:], 0)
        self.wrong_at(1, ("put", True, 1, 3))

    def test_no_mark(self):
        for mark in [2, 3, -1, True, False, None, "0", (0,), 10 ** 59]:
            self.wrong_at(1, ("put", 1, mark, 3))
        self.wrong_at(1, ("put", 2, 0, 3))
        self.wrong_at(1, ("put", 0, 3, 3))
        Program(STORE, with_put_in(STEPS, 1, ("put", 0, 2, 3)))

    def test_no_name(self):
        for name in [12, -1, True, False, None, "0", (0,), 10 ** 59]:
            self.wrong_at(3, ("tell", name))

    def test_places_that_are_none_or_not_later(self):
        for place in [6, -1, True, None, "3", (3,), 10 ** 59, 1, 0]:
            self.wrong_at(1, ("put", 1, 1, place))
        for place in [6, 7, -1, False, None, "3", (3,), -(10 ** 59), 0]:
            for at in range(4):
                self.wrong_at(0, ("look", 0, with_put_in(STEPS[0][2], at, (at, place))))
        self.wrong_at(0, ("look", 0, ((0, True), (1, 2), (2, 4), (3, 4))))
        for place in [2, 1, 0]:
            self.wrong_at(2, ("look", 2, ((0, 3), (1, place))))
            self.wrong_at(2, ("look", 2, ((0, place), (1, 3))))
        self.wrong_at(5, ("look", 1, ((0, 6), (1, 6))))
        self.wrong_at(5, ("put", 1, 0, 6))
        self.wrong_at(5, ("look", 1, ((0, 5), (1, 5))))

    def test_answers_that_are_none(self):
        goals = STEPS[0][2]
        for wrong in [goals[:3], goals[1:], goals + ((4, 4),), ((0, 1),) + goals, goals[::-1],
                      (goals[1], goals[0]) + goals[2:], goals[:2] + (goals[3], goals[2]), goals[:2] + goals[:2], (),
                      ((1, 1), (2, 2), (3, 4), (4, 4)), ((0, 1), (1, 2), (1, 2), (3, 4)),
                      ((0, 1), (True, 2), (2, 4), (3, 4)), ((False, 1),) + goals[1:], ((None, 1),) + goals[1:],
                      (("0", 1),) + goals[1:], ((0, 1, 2),) + goals[1:], ((0,),) + goals[1:], (0, 1, 2, 3), "0123",
                      None, 4, {}]:
            self.wrong_at(0, ("look", 0, wrong))
        for wrong in [((0, 5),), ((1, 5),), ((0, 5), (1, 5), (2, 5)), ((1, 5), (0, 5)), ((0, 5), (0, 5))]:
            self.wrong_at(4, ("look", 1, wrong))

    def test_the_first_wrong_step_is_told(self):
        for at in range(6):
            self.check(STEPS[:at] + (None,) * (6 - at), at)
        self.check(STEPS[:2] + (("tell", 12),) + STEPS[3:4] + (("tell", -1), "tell"), 2)
        self.check((("tell", 0),) * 399 + (("tell", 12),), 399)

    def test_other_objects(self):
        for thing in odd_things():
            if repr(thing) != repr(STEPS[3]):
                self.wrong_at(3, thing)
            for step in [("tell", thing), ("look", thing, STEPS[0][2]), ("look", 0, thing), (thing, 0, STEPS[0][2]),
                         (thing, 0), ("look", 1, (thing, (1, 4))), ("look", 1, ((0, thing), (1, 4))),
                         ("look", 1, ((thing, 4), (1, 4))), ("put", thing, 0, 4), ("put", 1, thing, 4),
                         ("put", 1, 0, thing), (thing, 1, 0, 4)]:
                fits = [("tell", 10)]
                if repr(step) not in [repr(fit) for fit in fits]:
                    self.wrong_at(3, step)


class Equal(unittest.TestCase):
    def test_by_store_and_steps(self):
        made = Program(STORE, STEPS)
        same = Program(Store((Kind(TORN.looks, TORN.drifts, TORN.puts), CORE, WHEEL)), tuple(list(STEPS)))
        self.assertIs(made == same, True)
        self.assertIs(made != same, False)
        others = [Program(STORE, with_put_in(STEPS, 3, ("tell", 10))), Program(STORE, STEPS[:5] + (("tell", 1),)),
                  Program(STORE, STEPS + (("tell", 0),)), Program(Store((TORN, CORE, WHEEL, STILL)), STEPS),
                  Program(Store((TORN, Kind(CORE.looks, ((1,), ()), CORE.puts), WHEEL)), STEPS)]
        for other in others:
            self.assertIs(made == other, False)
            self.assertIs(made != other, True)

    def test_to_no_other_thing(self):
        made = Program(STORE, (("tell", 0),))
        twin = mock.Mock(store=STORE, steps=made.steps)
        for thing in odd_things() + [twin, STORE, made.steps, (STORE, made.steps), Book(STORE, ((0, 0, 0),))]:
            self.assertIs(made == thing, False)
            self.assertIs(made != thing, True)


class HasPuts(unittest.TestCase):
    def test_each_step_counts(self):
        self.assertIs(has_puts(Program(STORE, STEPS)), True)
        self.assertIs(has_puts(Program(STORE, with_put_in(STEPS, 1, ("tell", 0)))), False)
        self.assertIs(has_puts(Program(STORE, (("tell", 0),))), False)
        self.assertIs(has_puts(Program(STORE, (("put", 1, 0, 1), ("tell", 0)))), True)
        self.assertIs(has_puts(Program(STORE, (("tell", 0), ("put", 1, 0, 2), ("tell", 0)))), True)

    def test_by_chance(self):
        chance = random.Random("puts")
        found = []
        for _ in range(100):
            made = chance_program(chance, STORE, chance.randint(1, 12))
            found.append(any("put" in step for step in made.steps))
            self.assertIs(has_puts(made), found[-1])
        self.assertEqual(set(found), {True, False})


if __name__ == "__main__":
    unittest.main()
