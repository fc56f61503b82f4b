"""Kinds, odd things and searches that several tests share."""

import itertools
import random

from lookspoil.errors import BadKind, NoStanding
from lookspoil.kinds import Kind
from lookspoil.stores import Book, Store

CORE = Kind((((0, 0),), ((1, 0),)), ((), ()), ((0, ()), (1, (0,))))
STILL = Kind((((0, 0),), ((1, 1),)), ((), ()), ())
WHEEL = Kind((((0, 1),), ((0, 2),), ((1, 0),)), ((), (), ()), ())
# Looks with two outcomes, and drifts: 0 may drift to 1 and back, 2 to itself.
MIST = Kind((((0, 0), (1, 2)), ((0, 1), (2, 0)), ((3, 2),)), ((1,), (0,), (2,)), ((2, (0, 1, 2)),))
# Answers that end in unlike rounds behind a long way that is the same.
LATE = Kind(tuple([((0, 1),), ((0, 2),), ((1, 2),), ((0, 4),), ((0, 5),), ((2, 5),)]), ((),) * 6, ())
# A drift leads from 0 ahead of a look that only 1 has.
SLIP = Kind((((5, 0),), ((6, 2),), ((7, 2),)), ((1,), (2,), ()), ())
LONE = Kind((((4, 0),),), ((),), ())
SAMPLES = (CORE, STILL, WHEEL, MIST, LATE, SLIP, LONE)


def odd_things():
    """Things of built-in types and of the package, none of them made of integers that fit."""
    deep_tuple, deep_list, deep_dict = (), [], {}
    for _ in range(38):
        deep_tuple, deep_list, deep_dict = (deep_tuple,), [deep_list], {0: deep_dict}
    return [
        None, True, False, -1, 10, 10 ** 59, -(10 ** 59), "", "look", "0", b"", b"look", b"\x00",
        (), [], {}, (0,), [0], {0: 0}, (None,), (True,), (False,), ("0",), (b"look",), ((),), ([],), [()],
        (0, 0), [0, 0], ("look", 0), ["look", 0], ("both", 0, 0), ((("look", 0),),), ("look", (0,)), ((0,), 0),
        {(0, 0): 0}, {(0, 1): 0}, {(0, 1): (0, {})}, {"look": 0}, {None: None}, {(): ()},
        range(0), range(3), range(10 ** 30), slice(0, 1), Ellipsis, NotImplemented, bytearray(b"look"),
        memoryview(b"look"), object(), object, int, tuple, len, lambda: 0, iter([0]), iter(()), (x for x in (0,)),
        zip((0,), (0,)), enumerate((0,)), {0: 0}.keys(), {0: 0}.items(), ValueError("look"), ValueError,
        NoStanding(), BadKind("looks"), BadKind, CORE, Kind, Store((CORE,)), Book(Store((CORE,)), ((0,),)),
        (CORE,), [CORE], {0: CORE}, (Store((CORE,)), ((0,),)), deep_tuple, deep_list, deep_dict,
        (None,) * 9999, [None] * 9999, (0,) * 9999, [-1] * 9999, (True,) * 9999, (("look", None),) * 3000,
        {number: None for number in range(4999)}, "look" * 3000,
    ]


def one_by_one(things):
    """Whether things are ascending, each one once."""
    return all(one < two for one, two in zip(things, things[1:]))


def some_kinds(many, seed, sizes=(1, 2, 3, 4), answers=3, drifts=2, outcomes=2):
    """Many kinds, the same ones for the same seed."""
    chance = random.Random(seed)
    return [chance_kind(chance, chance.choice(sizes), answers, drifts, outcomes) for _ in range(many)]


def chance_kind(chance, size, answers, drifts, outcomes):
    every = [(answer, goal) for answer in range(answers) for goal in range(size)]
    looks = tuple(
        tuple(sorted(chance.sample(every, chance.randint(1, min(outcomes, len(every))))))
        for _ in range(size))
    drifting = tuple(
        tuple(sorted(chance.sample(range(size), chance.randint(0, min(drifts, size)))))
        for _ in range(size))
    return Kind(looks, drifting, ())


def coming(kind):
    """For each standing the set of those that come from it, by joining what is known until nothing is new."""
    near = [{at} | {goal for _, goal in kind.looks[at]} | set(kind.drifts[at]) for at in range(kind.size)]
    for middle, one in itertools.product(range(kind.size), repeat=2):
        if middle in near[one]:
            near[one] |= near[middle]
    return near
