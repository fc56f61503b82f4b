"""Logs: what was seen of runs that were cut, and which names that leaves."""

from lookspoil.books import check_name, name_pairs
from lookspoil.checks import is_below, is_tuple
from lookspoil.errors import NoLog, NoTrace
from lookspoil.kinds import ANSWERS, answers_of
from lookspoil.knowing import Watch, known_at_first
from lookspoil.moves import answer_of, is_cut, moves_from, trace_end
from lookspoil.pairs import height_table
from lookspoil.quick import MOST_LAYOUTS, best_looks, price_of
from lookspoil.stores import check_layout, check_size, is_cell
from lookspoil.ways import all_goals, closed, goal_of_step, goals_of_answer

MOST_ENTRIES = 40


def names_in(book, log):
    """The ascending list of the names from whose layouts the log can come."""
    check_log(book, log)
    return names_left(standings_behind(book, log))


def layouts_behind(book, log, name):
    """For each cell where it can be behind the log, if it began with the name's layout; None if the log can't come."""
    check_log(book, log)
    check_name(book, name)
    behind = cells_behind(book, log, book.layouts[name])
    return tuple(behind) if can_be(behind) else None


def next_looks(book, log):
    """The ascending list of the cells at which a look can answer something that leaves fewer names."""
    check_log(book, log)
    behind = standings_behind(book, log)
    left = [behind[name] for name in names_left(behind)]
    return [cell for cell, kind in enumerate(book.store.kinds) if tells_some(kind, [cells[cell] for cells in left])]


def clearing(book, log):
    """The least number of looks behind which one name at most is left, or None if there is no such number."""
    check_log(book, log)
    check_size(book.store, MOST_LAYOUTS)
    kinds = book.store.kinds
    behind = standings_behind(book, log)
    if len(names_left(behind)) <= 1:
        return 0
    tables = [height_table(kind) for kind in kinds]
    if any([can_go_alike(tables, behind[one], behind[two]) for one, two in name_pairs(book)]):
        return None
    watches = [Watch(kind) for kind in kinds]
    out = [[]] * len(kinds)
    begin = known_at_first(watches, [cells if can_be(cells) else out for cells in behind])
    return price_of(best_looks(watches, begin, (1,) * len(kinds)), begin)


def entries_of(program, layout, trace):
    """The log that one sees who sees all looks of the trace, and lost behind each cut."""
    check_layout(program.store, layout)
    if trace_end(program, layout, trace) is None:
        raise NoTrace()
    here = (0, layout)
    log = []
    for move in trace:
        answer = answer_of(program, here, move)
        if answer is not None:
            log.append(("seen", program.steps[here[0]][1], answer))
        if is_cut(move):
            log.append(("lost",))
        here = goal_of_step(moves_from(program, here), move)
    return log


def check_log(book, log):
    """Raise NoLog for what is no log for the book."""
    if not (isinstance(log, (list, tuple)) and len(log) <= MOST_ENTRIES
            and all([is_entry(book.store, entry) for entry in log])):
        raise NoLog()


def is_entry(store, thing):
    """Whether thing is an entry of a log for cells of the store."""
    if not (is_tuple(1, 3, thing) and isinstance(thing[0], str)):
        return False
    if thing[0] == "seen":
        return len(thing) == 3 and is_cell(store, thing[1]) and is_below(ANSWERS, thing[2])
    return thing[0] == "lost" and len(thing) == 1


def standings_behind(book, log):
    """For each name what cells_behind tells of its layout."""
    return [cells_behind(book, log, layout) for layout in book.layouts]


def cells_behind(book, log, layout):
    """For each cell the ascending list of the standings in which it can be behind the log; drifts may come last."""
    kinds = book.store.kinds
    cells = [closed([standing], kind.drifts) for kind, standing in zip(kinds, layout)]
    for entry in log:
        if entry == ("lost",):
            cells = [closed(standings, all_goals(kind)) for kind, standings in zip(kinds, cells)]
        else:
            _, cell, answer = entry
            cells[cell] = behind_answer(kinds[cell], cells[cell], answer)
    return cells


def behind_answer(kind, standings, answer):
    """Where a cell can be behind a look that answers so in one of standings, and drifts."""
    return closed(goals_of_answer(kind, standings, answer), kind.drifts)


def can_be(cells):
    """Whether there is some standing in which each cell can be."""
    return all([len(standings) > 0 for standings in cells])


def names_left(behind):
    """The ascending list of the names for which there is some standing in which each cell can be."""
    return [name for name, cells in enumerate(behind) if can_be(cells)]


def tells_some(kind, standings):
    """Whether a look at a cell can answer something for some names, but not for all; each has its list of standings."""
    fits = [
        [len(goals_of_answer(kind, here, answer)) > 0 for here in standings] for answer in answers_of(kind)]
    return any([True in names and False in names for names in fits])


def can_go_alike(tables, one, two):
    """Whether two names, each with the lists of its standings, can both be left for ever, wherever one looks.

    tables have the height of each pair of standings that has no endless joint looks ahead.
    """
    return all([
        any([(s, t) not in table for s in first for t in second]) for table, first, second in zip(tables, one, two)])
