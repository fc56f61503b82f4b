"""Kinds, odd things and searches that several tests share."""

import itertools
import random

from lookspoil.errors import BadKind, NoStanding
from lookspoil.kinds import Kind
from lookspoil.stores import Book, Store

CORE = Kind((((0, 0),), ((1, 0),)), ((), ()), ((0, ()), (1, (0,))))
STILL = Kind((((0, 0),), ((1, 1),)), ((), ()), ())
WHEEL = Kind((((0, 1),), ((0, 2),), ((1, 0),)), ((), (), ()), ())
# Looks with two outcomes, and drifts: 0 may drift to 1 and back, 2 to itself.
MIST = Kind((((0, 0), (1, 2)), ((0, 1), (2, 0)), ((3, 2),)), ((1,), (0,), (2,)), ((2, (0, 1, 2)),))
# Answers that end in unlike rounds behind a long way that is the same.
LATE = Kind(tuple([((0, 1),), ((0, 2),), ((1, 2),), ((0, 4),), ((0, 5),), ((2, 5),)]), ((),) * 6, ())
# 0 drifts to 1, and 1 to 2; only 1 answers 6, only 2 answers 7.
SLIP = Kind((((5, 0),), ((6, 2),), ((7, 2),)), ((1,), (2,), ()), ())
LONE = Kind((((4, 0),),), ((),), ())
# Six answers 0, then 1 for ever; 7 answers 0 for ever.
STEEP = Kind((*[((0, goal),) for goal in range(1, 7)], ((1, 6),), ((0, 7),)), ((),) * 8, ())
# Two rounds, of three and five answers, that go together for long.
GEARS = Kind(
    tuple(((answer, goal),) for answer, goal in zip((0, 1, 0, 0, 1, 0, 0, 1), (1, 2, 0, 4, 5, 6, 7, 3))), ((),) * 8, ())
# All ways from 0 and 2 lead to 4, from 1 and 3 to 5; these never answer alike.
FOG = Kind((((0, 4),), ((0, 5),), ((3, 4),), ((3, 5),), ((1, 4),), ((2, 5),)), ((2,), (3,), (), (), (4,), ()), ())
SAMPLES = (CORE, STILL, WHEEL, MIST, LATE, SLIP, LONE, STEEP, GEARS, FOG)


def odd_things():
    """Things of built-in types and of the package, none of them made of integers that fit."""
    deep_tuple, deep_list, deep_dict = (), [], {}
    for _ in range(38):
        deep_tuple, deep_list, deep_dict = (deep_tuple,), [deep_list], {0: deep_dict}
    return [
        None, True, False, -1, 10, 10 ** 59, -(10 ** 59), "", "look", "0", b"", b"look", b"\x00",
        (), [], {}, (0,), [0], {0: 0}, (None,), (True,), (False,), ("0",), (b"look",), ((),), ([],), [()],
        (0, 0), [0, 0], ("look", 0), ["look", 0], ("both", 0, 0), ((("look", 0),),), ("look", (0,)), ((0,), 0),
        {(0, 0): 0}, {(0, 1): 0}, {(0, 1): (0, {})}, {"look": 0}, {None: None}, {(): ()},
        range(0), range(3), range(10 ** 30), slice(0, 1), Ellipsis, NotImplemented, bytearray(b"look"),
        memoryview(b"look"), object(), object, int, tuple, len, lambda: 0, iter([0]), iter(()), (x for x in (0,)),
        zip((0,), (0,)), enumerate((0,)), {0: 0}.keys(), {0: 0}.items(), ValueError("look"), ValueError,
        NoStanding(), BadKind("looks"), BadKind, CORE, Kind, Store((CORE,)), Book(Store((CORE,)), ((0,),)),
        (CORE,), [CORE], {0: CORE}, (Store((CORE,)), ((0,),)), deep_tuple, deep_list, deep_dict,
        (None,) * 9999, [None] * 9999, (0,) * 9999, [-1] * 9999, (True,) * 9999, (("look", None),) * 3000,
        {number: None for number in range(4999)}, "look" * 3000,
    ]


def one_by_one(things):
    """Whether things are ascending, each one once."""
    return all(one < two for one, two in zip(things, things[1:]))


def some_kinds(many, seed, sizes=(1, 2, 3, 4), answers=3, drifts=2, outcomes=2):
    """Many kinds, the same ones for the same seed."""
    chance = random.Random(seed)
    return [chance_kind(chance, chance.choice(sizes), answers, drifts, outcomes) for _ in range(many)]


def chance_kind(chance, size, answers, drifts, outcomes):
    every = [(answer, goal) for answer in range(answers) for goal in range(size)]
    looks = tuple(
        tuple(sorted(chance.sample(every, chance.randint(1, min(outcomes, len(every))))))
        for _ in range(size))
    drifting = tuple(
        tuple(sorted(chance.sample(range(size), chance.randint(0, min(drifts, size)))))
        for _ in range(size))
    return Kind(looks, drifting, ())


def coming(kind):
    """For each standing the set of those that come from it, by joining what is known until nothing is new."""
    near = [{at} | {goal for _, goal in kind.looks[at]} | set(kind.drifts[at]) for at in range(kind.size)]
    for middle, one in itertools.product(range(kind.size), repeat=2):
        if middle in near[one]:
            near[one] |= near[middle]
    return near


def steps_of_pair(kind, pair):
    """The joint looks and the drifts that lead from a pair: two sets of pairs."""
    s, t = pair
    looks = {
        (one, two) for (answer, one), (other, two) in itertools.product(kind.looks[s], kind.looks[t])
        if answer == other}
    return looks, {(goal, t) for goal in kind.drifts[s]} | {(s, goal) for goal in kind.drifts[t]}


def greatest_looks(kind, begins):
    """The greatest number of joint looks one behind another from some of begins, or None if there is none.

    More joint looks than there are pairs come round to the same pair twice.
    """
    here = drifted(kind, set(begins))
    for many in range(kind.size ** 2 + 1):
        behind = set().union(*[steps_of_pair(kind, pair)[0] for pair in here])
        if not behind:
            return many
        here = drifted(kind, behind)
    return None


def drifted(kind, pairs):
    """The pairs to which drifts alone lead from these."""
    while True:
        more = pairs.union(*[steps_of_pair(kind, pair)[1] for pair in pairs])
        if more == pairs:
            return pairs
        pairs = more


def all_pairs(kind, u, v):
    """What point 3.1 calls the pairs of u and v."""
    near = coming(kind)
    return set(itertools.product(near[u], near[v]))


def many_kinds():
    """Kinds that are sure, that have more outcomes, and that drift."""
    return (
        list(SAMPLES) + some_kinds(40, "sure", sizes=(1, 2, 3, 4, 5), answers=2, drifts=0, outcomes=1)
        + some_kinds(30, "looks", sizes=(2, 3, 4), answers=4, drifts=0)
        + some_kinds(40, "drifts", sizes=(2, 3, 4), answers=5, drifts=1, outcomes=1)
        + some_kinds(30, "both", sizes=(2, 3, 4), answers=7, drifts=1, outcomes=3)
        + some_kinds(6, "large", sizes=(6, 8), answers=9, drifts=1))


def circle(size):
    """A kind in which just those standings are alike that stand beside one another in a circle."""
    looks = [sorted({(at, at), ((at + 1) % size, at)}) for at in range(size)]
    return Kind(tuple(tuple(outcomes) for outcomes in looks), ((),) * size, ())


FIVE, SEVEN, EIGHT = circle(5), circle(7), circle(8)
EVEN = Kind(tuple(((at, at),) for at in range(8)), ((),) * 8, ())


FOUND = {}


def apart_pairs(kind):
    """The pairs of standings that are apart, by a search."""
    key = (kind.looks, kind.drifts)
    if key not in FOUND:
        FOUND[key] = frozenset(
            (u, v) for u, v in itertools.product(range(kind.size), repeat=2)
            if greatest_looks(kind, all_pairs(kind, u, v)) is not None)
    return FOUND[key]


def apart_layouts(store):
    """For each layout the set of those that are apart from it."""
    kinds = [apart_pairs(kind) for kind in store.kinds]
    layouts = list(itertools.product(*[range(kind.size) for kind in store.kinds]))
    return {
        one: {two for two in layouts if any(pair in kind for pair, kind in zip(zip(one, two), kinds))}
        for one in layouts}
