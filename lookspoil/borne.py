"""How many cuts a program bears, and how far apart they must come."""

from heapq import heappop, heappush

from lookspoil.books import check_name
from lookspoil.judging import refutation
from lookspoil.moves import is_cut, moves_from
from lookspoil.programs import check_same_store, told_at
from lookspoil.reach import least_cuts
from lookspoil.traces import cuts_in


def cuts_borne(program, book):
    """The greatest number k such that no refutation has k or fewer cuts, or None if there is no refutation."""
    told = refutation(program, book)
    return None if told is None else cuts_in(told[1]) - 1


def meeting(program, book, one, two):
    """The least number of cuts with which two names can come to one tell place, or None if they can't."""
    check_same_store(program, book)
    check_name(book, one)
    check_name(book, two)
    first = cuts_to_tells(program, book.layouts[one])
    second = cuts_to_tells(program, book.layouts[two])
    return min([max(first[place], second[place]) for place in first if place in second], default=None)


def gap_needed(program, book):
    """The least number of steps that must be between each two cuts, so that no trace leads to a wrong tell."""
    told = refutation(program, book)
    if told is None:
        return 0
    if cuts_in(told[1]) <= 1:
        return None
    wrong = 0
    right = len(program.steps)
    while right - wrong > 1:
        gap = (wrong + right) // 2
        if all([bears_gap(program, layout, name, gap) for name, layout in enumerate(book.layouts)]):
            right = gap
        else:
            wrong = gap
    return right


def dead_places(program, book):
    """The ascending list of the places to which no trace from the layout of any name leads."""
    check_same_store(program, book)
    reached = {}
    for layout in book.layouts:
        for place, _ in least_cuts(program, layout):
            reached[place] = True
    return [place for place in range(len(program.steps)) if place not in reached]


def cuts_to_tells(program, layout):
    """For each tell place to which traces from the layout lead the fewest cuts in one."""
    found = least_cuts(program, layout)
    fewest = {}
    for here in found:
        place = here[0]
        if told_at(program, place) is not None and place not in fewest:
            fewest[place] = found[here][0]
    return fewest


def bears_gap(program, layout, name, gap):
    """Whether each trace from the layout to a tell of another name has a cut less than gap steps behind another one.

    Of all ways to a pair (place, layout) that one counts where the fewest
    steps are missing until the next cut may come: none ahead of the first one.
    """
    fewest = {(0, layout): 0}
    waiting = [(0, 0, layout)]
    while waiting:
        place, missing, standings = heappop(waiting)
        here = (place, standings)
        if told_at(program, place) not in (None, name):
            return False
        if fewest[here] == missing:
            for move, goal in moves_from(program, here):
                left = missing_behind(move, missing, gap)
                if left is not None and left < fewest.get(goal, gap + 1):
                    fewest[goal] = left
                    heappush(waiting, (goal[0], left, goal[1]))
    return True


def missing_behind(move, missing, gap):
    """How many steps are missing behind a move, if so many were ahead of it; None if it is a cut that may not be."""
    if is_cut(move):
        return gap if missing == 0 else None
    if move[0] == "step":
        return max(0, missing - 1)
    return missing
