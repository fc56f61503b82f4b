"""17.1: programs that go alike, pruned, alike_places, and the thirteenth fact."""

import itertools
import random
import unittest

from lookspoil.borne import cuts_borne
from lookspoil.errors import OtherStore
from lookspoil.judging import table
from lookspoil.lying import lie_reader
from lookspoil.programs import Program
from lookspoil.pruning import alike_places, go_alike, pruned
from lookspoil.quick import cheapest_reader
from lookspoil.readers import bears, most_looks, reader
from lookspoil.stores import Book, Store
from tests.samples import CORE, STILL, WHEEL
from tests.worlds import (
    BUSY, BUSY_BOOK, PAIR, SHORT, THREE, chain, chance_program, chance_store, dry_case, keeping_cases, kept_books,
    mixed_cases, put_kinds, with_put_in)


def alike_found(program, other):
    """For all pairs of places of two programs whether they go alike, by the words of 17.1, the last ones first."""
    found = {}
    for place in range(len(program.steps) - 1, -1, -1):
        for there in range(len(other.steps) - 1, -1, -1):
            one, two = program.steps[place], other.steps[there]
            if one[0] != two[0] or one[1] != two[1]:
                alike = False
            elif one[0] == "tell":
                alike = True
            elif one[0] == "put":
                alike = one[2] == two[2] and found[(one[3], two[3])]
            else:
                alike = all(found[(goal, goes)] for (_, goal), (_, goes) in zip(one[2], two[2]))
            found[(place, there)] = alike
    return found


def goals_of(step):
    if step[0] == "look":
        return [goal for _, goal in step[2]]
    return [step[3]] if step[0] == "put" else []


def led_to(program):
    """The places to which steps lead from 0, possible or not."""
    found, waiting = set(), [0]
    while waiting:
        place = waiting.pop()
        if place not in found:
            found.add(place)
            waiting += goals_of(program.steps[place])
    return found


def lists_found(program):
    """What alike_places must tell."""
    found = alike_found(program, program)
    places = range(len(program.steps))
    return sorted({tuple(there for there in places if found[(place, there)]) for place in places})


def moved_step(step, places):
    """The step with its goals moved as the dict tells."""
    if step[0] == "look":
        return ("look", step[1], tuple((answer, places[goal]) for answer, goal in step[2]))
    return (*step[:3], places[step[3]]) if step[0] == "put" else step


def doubled(chance, program, many):
    """The program with many of its places put in twice; each step leads to either of both by chance."""
    order = sorted(list(range(len(program.steps))) + [chance.randrange(len(program.steps)) for _ in range(many)])
    there = {place: [at for at, other in enumerate(order) if other == place] for place in order}
    steps = [
        moved_step(program.steps[place], {goal: chance.choice(there[goal]) for goal in there}) for place in order]
    return Program(program.store, tuple(steps))


def with_dead_places(chance, program, many):
    """The program with places put in to which nothing leads."""
    steps, store = program.steps, program.store
    for _ in range(many):
        at = chance.randint(1, len(steps) - 1) if len(steps) > 1 else 1
        places = {place: place if place < at else place + 1 for place in range(len(steps))}
        new = chance.choice([("tell", 11), moved_step(steps[at - 1], places)])
        moved = [moved_step(step, places) for step in steps]
        steps = tuple(moved[:at] + [new] + moved[at:])
    return Program(store, steps)


def one_changed(chance, program):
    """The program with one step changed."""
    at = chance.randrange(len(program.steps))
    step = program.steps[at]
    goals = goals_of(step)
    if not goals:
        return Program(program.store, with_put_in(program.steps, at, ("tell", (step[1] + 1) % 12)))
    places = {goal: goal for goal in goals}
    places[chance.choice(goals)] = chance.randrange(at + 1, len(program.steps))
    return Program(program.store, with_put_in(program.steps, at, moved_step(step, places)))


def some_programs(many, seed):
    chance = random.Random(seed)
    made = [program for program, _ in mixed_cases(many, seed)]
    kinds = put_kinds(10, seed) + [STILL, CORE, WHEEL]
    for _ in range(many):
        store = chance_store(chance, kinds, 2)
        made.append(chance_program(chance, store, chance.choice((5, 12, 30)), (0, 1), ("look", "look", "put", "tell")))
    return made


PROGRAMS = some_programs(100, "pruning")
# A reader of this has some thousand places: nearly all names are asked for at the cells that need many looks.
SLOW = Book(Store((BUSY, BUSY, THREE)), tuple(itertools.product((0, 4), (0, 4), (0, 1, 2))))


class GoAlike(unittest.TestCase):
    def test_examples(self):
        store = SHORT.store
        again = Program(store, (("look", 0, ((0, 3), (1, 1))), ("tell", 1), ("tell", 5), ("tell", 0)))
        self.assertIs(go_alike(SHORT, again), True)
        self.assertIs(go_alike(again, SHORT), True)
        for steps in [(("look", 0, ((0, 2), (1, 1))), ("tell", 0), ("tell", 1)), (("tell", 0),),
                      (("look", 0, ((0, 1), (1, 1))), ("tell", 0)),
                      (("look", 0, ((0, 1), (1, 2))), ("look", 0, ((0, 2), (1, 2))), ("tell", 1)),
                      (("put", 0, 0, 1), ("look", 0, ((0, 2), (1, 3))), ("tell", 0), ("tell", 1))]:
            self.assertIs(go_alike(SHORT, Program(store, steps)), False)

    def test_puts(self):
        made = [Program(PAIR, (("put", cell, mark, 1), ("tell", name)))
                for cell, mark, name in [(0, 0, 0), (0, 1, 0), (0, 0, 1), (1, 0, 0)]]
        for one, two in itertools.product(range(4), repeat=2):
            self.assertIs(go_alike(made[one], made[two]), one == two)
        other = Program(PAIR, (("put", 0, 0, 2), ("tell", 3), ("tell", 0)))
        self.assertIs(go_alike(made[0], other), True)

    def test_cells(self):
        store = Store((STILL, STILL))
        made = [Program(store, (("look", cell, ((0, 1), (1, 2))), ("tell", 0), ("tell", 1))) for cell in (0, 1)]
        self.assertIs(go_alike(made[0], made[1]), False)

    def test_a_look_that_makes_no_difference_does_not_go_alike_with_none(self):
        self.assertIs(go_alike(chain(SHORT.store, 3), chain(SHORT.store, 4)), False)
        self.assertIs(go_alike(chain(SHORT.store, 4), chain(SHORT.store, 4)), True)

    def test_each_goes_alike_with_itself(self):
        for program in PROGRAMS:
            self.assertIs(go_alike(program, program), True)
            self.assertIs(go_alike(program, Program(program.store, program.steps)), True)

    def test_places_put_in_twice_and_places_that_nothing_leads_to(self):
        chance = random.Random("twice")
        for program in PROGRAMS:
            for other in [doubled(chance, program, 4), with_dead_places(chance, program, 3),
                          with_dead_places(chance, doubled(chance, program, 2), 2)]:
                self.assertIs(alike_found(program, other)[(0, 0)], True)
                self.assertIs(go_alike(program, other), True)
                self.assertIs(go_alike(other, program), True)

    def test_one_step_changed(self):
        chance = random.Random("changed")
        found = []
        for program in PROGRAMS:
            for _ in range(3):
                other = one_changed(chance, program)
                found.append(alike_found(program, other)[(0, 0)])
                self.assertIs(go_alike(program, other), found[-1])
                self.assertIs(go_alike(other, doubled(chance, program, 3)), found[-1])
        self.assertTrue(found.count(True) > 50 and found.count(False) > 100, found.count(True))

    def test_other_programs_of_one_store(self):
        chance = random.Random("others")
        found = []
        for _ in range(300):
            store = Store((STILL,))
            one, two = [chance_program(chance, store, chance.randint(1, 4), (0, 1), ("look", "tell")) for _ in range(2)]
            found.append(alike_found(one, two)[(0, 0)])
            self.assertIs(go_alike(one, two), found[-1])
        self.assertTrue(found.count(True) > 30 and found.count(False) > 100)

    def test_other_stores(self):
        for other in [Program(Store((CORE, CORE)), (("tell", 0),)), Program(Store((STILL,)), SHORT.steps),
                      Program(Store((WHEEL,)), SHORT.steps)]:
            for one, two in [(SHORT, other), (other, SHORT)]:
                with self.assertRaises(OtherStore):
                    go_alike(one, two)


class AlikePlaces(unittest.TestCase):
    def test_examples(self):
        self.assertEqual(alike_places(SHORT), [[0], [1], [2]])
        steps = (("look", 0, ((0, 1), (1, 2))), ("look", 0, ((0, 3), (1, 4))), ("look", 0, ((0, 5), (1, 4))),
                 ("tell", 0),
                 ("tell", 1), ("tell", 0))
        self.assertEqual(alike_places(Program(SHORT.store, steps)), [[0], [1, 2], [3, 5], [4]])
        self.assertEqual(alike_places(Program(SHORT.store, (("tell", 7),) * 3)), [[0, 1, 2]])

    def test_against_a_search(self):
        chance = random.Random("lists")
        many = set()
        for program in PROGRAMS:
            for made in (program, doubled(chance, program, 5)):
                told = alike_places(made)
                self.assertEqual(told, [list(places) for places in lists_found(made)])
                self.assertIs(type(told), list)
                self.assertEqual({type(places) for places in told}, {list})
                many |= {len(places) for places in told}
        self.assertTrue({1, 2, 3, 4} <= many, many)

    def test_what_is_returned_is_new(self):
        program = PROGRAMS[20]
        told = alike_places(program)
        for places in told:
            places.append(0)
        told.clear()
        self.assertEqual(alike_places(program), [list(places) for places in lists_found(program)])


class Pruned(unittest.TestCase):
    def check(self, program):
        made = pruned(program)
        self.assertIs(type(made), Program)
        self.assertTrue(made.store == program.store)
        self.assertIs(go_alike(made, program), True)
        reached = led_to(program)
        lists = [places for places in alike_places(program) if reached & set(places)]
        self.assertEqual(len(made.steps), len(lists))
        self.assertTrue(made == pruned(program))
        for place, step in enumerate(made.steps):
            self.assertTrue(all(place < goal < len(made.steps) for goal in goals_of(step)))
        if len(made.steps) <= 400:
            self.assertTrue(made == Program(made.store, made.steps))
        return made

    def test_examples(self):
        self.assertTrue(pruned(SHORT) == SHORT)
        again = Program(SHORT.store, (("look", 0, ((0, 3), (1, 1))), ("tell", 1), ("tell", 5), ("tell", 0)))
        self.assertEqual(len(self.check(again).steps), 3)
        self.assertEqual(self.check(Program(SHORT.store, (("tell", 2),) * 400)).steps, (("tell", 2),))
        # The last place of all is one to which nothing leads.
        dead = Program(SHORT.store, (("look", 0, ((0, 1), (1, 1))), ("tell", 4), ("tell", 3)))
        self.assertEqual(self.check(dead).steps, (("look", 0, ((0, 1), (1, 1))), ("tell", 4)))

    def test_as_few_places_as_can_be(self):
        chance = random.Random("few")
        sizes = set()
        for program in PROGRAMS:
            made = self.check(program)
            self.assertIs(alike_found(made, program)[(0, 0)], True)
            sizes.add(len(program.steps) - len(made.steps))
            self.assertEqual(lists_found(made), [(place,) for place in range(len(made.steps))])
            self.assertEqual(led_to(made), set(range(len(made.steps))))
            more = with_dead_places(chance, doubled(chance, program, 5), 3)
            self.assertEqual(len(self.check(more).steps), len(made.steps))
        self.assertTrue({0, 1, 2, 3} <= sizes, sizes)

    def test_it_does_what_the_program_does(self):
        for program, book in mixed_cases(60, "does") + keeping_cases():
            made = pruned(program)
            self.assertEqual(cuts_borne(made, book), cuts_borne(program, book))
            self.assertEqual(table(made, book) is None, table(program, book) is None)
            self.assertIs(bears(made, book), bears(program, book))
            self.assertEqual(most_looks(made), most_looks(program))

    def test_readers(self):
        for book in kept_books(40, "pruned"):
            for program in (reader(book), lie_reader(book, 0)):
                self.assertIs(bears(self.check(program), book), True)

    def test_some_thousand_places(self):
        self.assertGreater(len(reader(SLOW).steps), 2000)
        for program in [reader(BUSY_BOOK), cheapest_reader(BUSY_BOOK, (1, 1, 1)), reader(SLOW)]:
            self.assertGreater(len(program.steps), 400)
            made = self.check(program)
            self.assertLess(len(made.steps), len(program.steps))
            self.assertEqual(sum(len(places) for places in alike_places(program)), len(program.steps))
            self.assertIs(go_alike(made, program), True)
            self.assertTrue(pruned(made).steps == made.steps)
        self.assertIs(bears(pruned(reader(SLOW)), SLOW), True)
        self.assertGreater(len(pruned(reader(SLOW)).steps), 400)

    def test_long_programs(self):
        self.assertTrue(self.check(chain(SHORT.store, 400)) == chain(SHORT.store, 400))
        program, _ = dry_case((1,) * 5)
        self.assertEqual(len(self.check(program).steps), 7)

    def test_the_elder_program_stays(self):
        steps = (("look", 0, ((0, 3), (1, 1))), ("tell", 1), ("tell", 5), ("tell", 0))
        program = Program(SHORT.store, steps)
        pruned(program)
        self.assertEqual(program.steps, steps)


if __name__ == "__main__":
    unittest.main()
