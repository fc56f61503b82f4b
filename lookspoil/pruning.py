"""Programs that go alike, and the least ones that do."""

from lookspoil.programs import check_same_store, program_of_any_size


def go_alike(program, other):
    """Whether the two programs go alike from their places 0."""
    check_same_store(program, other)
    numbers = {}
    return sorts_of_places(program, numbers)[0] == sorts_of_places(other, numbers)[0]


def pruned(program):
    """A program that goes alike, with as few places as possible.

    The last place of each sort stands for all: steps lead from it to later
    places, so to sorts the last places of which are later still.
    """
    sorts = sorts_of_places(program, {})
    last = {number: place for place, number in enumerate(sorts)}
    used = {last[sorts[0]]: True}
    for place, step in enumerate(program.steps):
        if place in used:
            for goal in goals_of_step(step):
                used[last[sorts[goal]]] = True
    kept = sorted(used)
    places = {sorts[place]: number for number, place in enumerate(kept)}
    there = [places.get(number) for number in sorts]
    return program_of_any_size(program.store, tuple([step_to(program.steps[place], there) for place in kept]))


def alike_places(program):
    """The ascending list of the ascending lists of the places that go alike with one another."""
    lists = {}
    for place, number in enumerate(sorts_of_places(program, {})):
        lists.setdefault(number, []).append(place)
    return sorted(lists.values())


def sorts_of_places(program, numbers):
    """For each place the number of its sort, which those that go alike share.

    numbers is a dict from steps that lead to sorts to the numbers of their own
    sorts; what is new is added to it. Goals are later, so they have theirs.
    """
    sorts = [0] * len(program.steps)
    for place in range(len(program.steps) - 1, -1, -1):
        step = step_to(program.steps[place], sorts)
        sorts[place] = numbers.setdefault(step, len(numbers))
    return sorts


def goals_of_step(step):
    """The list of the places to which the step leads."""
    if step[0] == "look":
        return [goal for _, goal in step[2]]
    return [step[3]] if step[0] == "put" else []


def step_to(step, there):
    """The step that leads, where this one leads to a place, to what the list there has for it."""
    if step[0] == "look":
        return "look", step[1], tuple([(answer, there[goal]) for answer, goal in step[2]])
    if step[0] == "put":
        return "put", step[1], step[2], there[step[3]]
    return step
