"""Readers of the least price."""

from heapq import heappop, heappush

from lookspoil.books import kept
from lookspoil.checks import is_between, is_tuple
from lookspoil.errors import NoPrices
from lookspoil.knowing import Watch, behind_look, known_at_first, rank
from lookspoil.making import is_told, program_of_points, told
from lookspoil.stores import check_size
from lookspoil.ways import comes

MOST_PRICE = 1000
MOST_LAYOUTS = 200


def least_price(book, prices):
    """The least price of the looks of a program that bears the book, or None if none does."""
    check_prices(book, prices)
    if not kept(book):
        return None
    watches, begin = watches_of(book)
    return price_of(best_looks(watches, begin, prices), begin)


def cheapest_reader(book, prices):
    """A program that bears the book, and looks for the least price, or None if none bears it."""
    check_prices(book, prices)
    if not kept(book):
        return None
    watches, begin = watches_of(book)
    best = best_looks(watches, begin, prices)
    points = {}
    used = {begin: True}
    for known in list(best)[::-1]:
        if known in used:
            _, cell, goals = best[known]
            points[known] = (cell, goals)
            for _, goal in goals:
                used[goal] = True
    return program_of_points(book.store, points, len(book.layouts))


def check_prices(book, prices):
    """Raise NoPrices for what is no price for each cell, then TooLarge for too large a store."""
    cells = len(book.store.kinds)
    if not (is_tuple(cells, cells, prices) and all([is_between(0, MOST_PRICE, price) for price in prices])):
        raise NoPrices()
    check_size(book.store, MOST_LAYOUTS)


def watches_of(book):
    """A watch for each cell of the book, and what is known ahead of all looks."""
    kinds = book.store.kinds
    watches = [Watch(kind) for kind in kinds]
    standings = [[comes(kind, at) for kind, at in zip(kinds, layout)] for layout in book.layouts]
    return watches, known_at_first(watches, standings)


def best_looks(watches, begin, prices):
    """For all that can be known where looks for the least price lead a triple of how to go on, the last looks first.

    These are the price of all that is still to look at, the cell to look at
    now, and the pairs of an answer and what is known behind it. Ever greater
    prices are tried, so that nothing is looked at that costs far too much.
    """
    most = 0
    best = best_within(looks_within(watches, begin, prices, most))
    price = price_of(best, begin)
    while price is None or price > most:
        most = max(1, 2 * most) if price is None else price
        best = best_within(looks_within(watches, begin, prices, most))
        price = price_of(best, begin)
    return best


def looks_within(watches, begin, prices, most):
    """For all that can be known behind looks for at most a price the looks that can follow, the first ones first.

    Each look is told by its price, its cell, and the pairs of an answer and
    what is known behind it. The heap gives what is known only when all that
    leads there has been, so that the least price of the looks ahead is known.
    """
    spent = {begin: 0}
    waiting = [] if is_told(begin) else [(rank(watches, begin), begin)]
    looks = {}
    while waiting:
        known = heappop(waiting)[1]
        looks[known] = [
            (prices[cell], cell, goals_of(watches, known, cell))
            for cell in cells_worth(known, prices, most - spent[known])]
        for price, _, goals in looks[known]:
            for _, goal in goals:
                if not is_told(goal):
                    if goal not in spent:
                        heappush(waiting, (rank(watches, goal), goal))
                    spent[goal] = min(spent.get(goal, most), spent[known] + price)
    return looks


def cells_worth(known, prices, left):
    """The cells at which a look is worth it and costs no more than what is left; one alone if it costs nothing.

    A look that costs nothing never hurts: what was to be learned later has been learned now.
    """
    cells = [cell for cell, there in enumerate(known) if len(there) > 0 and prices[cell] <= left]
    free = [cell for cell in cells if prices[cell] == 0]
    return free[:1] if free else cells


def goals_of(watches, known, cell):
    """The pairs of an answer of the cell and what is known behind it; for what can't be answered any tell will do."""
    goals = []
    for answer in watches[cell].answers:
        goal = behind_look(watches, known, cell, answer)
        goals.append((answer, told(0) if goal is None else goal))
    return goals


def best_within(looks):
    """The best of the looks for all that is known from which they lead to tells, whatever is answered."""
    best = {}
    for known in list(looks)[::-1]:
        for price, cell, goals in looks[known]:
            prices = [price_of(best, goal) for _, goal in goals]
            if None not in prices and (known not in best or price + max(prices) < best[known][0]):
                best[known] = (price + max(prices), cell, goals)
    return best


def price_of(best, known):
    """The price of all that is still to look at, None where nothing best is known."""
    if is_told(known):
        return 0
    return best[known][0] if known in best else None
