"""Programs: steps that look, put and tell, each leading to later places alone."""

from lookspoil.checks import is_below, is_between, is_integer, is_tuple
from lookspoil.errors import BadProgram, OtherStore
from lookspoil.kinds import answers_of
from lookspoil.stores import MOST_NAMES, is_cell

MOST_STEPS = 400


class Program:
    """Steps over the cells of a store. It never changes: all that it keeps never does."""

    def __init__(self, store, steps):
        if not is_tuple(1, MOST_STEPS, steps):
            raise BadProgram("steps")
        for place, thing in enumerate(steps):
            if not is_step_there(store, (place + 1, len(steps) - 1), thing):
                raise BadProgram(place)
        self.store = store
        self.steps = steps

    def __eq__(self, other):
        return isinstance(other, Program) and self.store == other.store and self.steps == other.steps


def has_puts(program):
    """Whether some step is a put."""
    return "put" in [step[0] for step in program.steps]


def program_of_any_size(store, steps):
    """The program with these steps, which are right but for their number and for the names that they tell.

    Only what is passed to the class is bounded, so the bounds are not asked for here.
    """
    made = Program(store, (("tell", 0),))
    made.steps = steps
    return made


def check_same_store(one, two):
    """Raise OtherStore if two programs or books have unlike stores."""
    if one.store != two.store:
        raise OtherStore()


def told_at(program, place):
    """The name that is told at the place, or None if it is no tell."""
    step = program.steps[place]
    return step[1] if step[0] == "tell" else None


def is_step_there(store, later, thing):
    """Whether thing is a step at a place; later are the first and the last place behind that."""
    if not (is_tuple(2, 4, thing) and isinstance(thing[0], str)):
        return False
    if thing[0] == "look":
        return len(thing) == 3 and is_cell(store, thing[1]) and are_goals(store.kinds[thing[1]], later, thing[2])
    if thing[0] == "put":
        return (len(thing) == 4 and is_cell(store, thing[1])
                and is_below(len(store.kinds[thing[1]].puts), thing[2]) and is_later(later, thing[3]))
    return thing[0] == "tell" and len(thing) == 2 and is_below(MOST_NAMES, thing[1])


def are_goals(kind, later, thing):
    """Whether thing tells a later place for each answer that looks at this kind can give, ascending."""
    answers = answers_of(kind)
    if not is_tuple(len(answers), len(answers), thing):
        return False
    return all([is_goal(answer, later, goal) for answer, goal in zip(answers, thing)])


def is_goal(answer, later, thing):
    """Whether thing is a pair of this answer and a later place."""
    return is_tuple(2, 2, thing) and is_integer(thing[0]) and thing[0] == answer and is_later(later, thing[1])


def is_later(later, thing):
    """Whether thing is a place from the first to the last one of later."""
    return is_between(later[0], later[1], thing)
