"""What several test files share: nets, things of any kind, and how a refusal is checked."""

import copy
import random
import sys


class Posing:
    """Claims to be a whole number."""

    __class__ = int


class Agreeing:
    """Says that it is equal to everything, and compares with everything."""

    def __eq__(self, other):
        return True

    __le__ = __ge__ = __lt__ = __gt__ = __eq__

    def __hash__(self):
        return 0

    def __len__(self):
        return 2

    def __iter__(self):
        return iter((0, []))

    def __index__(self):
        return 0


class Wild:
    """Fails whatever it is asked."""

    def fail(self, *rest):
        raise RuntimeError("asked")

    __eq__ = __ne__ = __lt__ = __le__ = __gt__ = __ge__ = fail
    __hash__ = __len__ = __iter__ = __bool__ = __getitem__ = __contains__ = fail
    __index__ = __int__ = __str__ = __repr__ = __format__ = fail


def holding_itself():
    rows = []
    rows.append(rows)
    return rows


def deep_tuple():
    nested = ()
    for _ in range(5000):
        nested = (nested,)
    return nested


def things():
    """Things of many kinds, none of which is a number, a room, a step or a net."""
    return [
        None, True, False, "", "0", "ab", "abc", b"", b"\x00", b"ab", b"abc",
        [], [0], [0, []], [0, 0, 0], (), (0,), (None, None), ([], 0),
        {}, {0: 0}, {0: 0, 1: []}, set(), {0}, {0, 1, 2}, frozenset({0}),
        range(1), range(2), range(3), iter([]), (x for x in ()), slice(0), bytearray(b"ab"),
        object(), int, list, len, lambda: 0, ..., NotImplemented, ValueError("x"), sys, 1j,
        Posing(), Agreeing(), Wild(), Posing, holding_itself(), deep_tuple(),
        "9" * 300, memoryview(b"ab"), 10 ** 40, -(10 ** 40), -1,
    ]


def things_but(*kinds):
    """The things that are not of one of these kinds."""
    return [x for x in things() if type(x) not in kinds]


def refusal(test, error, call, *args):
    """The error with which the call refuses: it is of that very class."""
    with test.assertRaises(error) as caught:
        call(*args)
    test.assertIs(type(caught.exception), error)
    return caught.exception


def refused_at(test, error, at, call, *args):
    """The call refuses with that error at that place."""
    told = refusal(test, error, call, *args).at
    test.assertEqual(told, at)
    test.assertIs(type(told), type(at))


def leaves_as_was(test, call, *args):
    """What the call tells; what it was handed stays as it was."""
    kept = copy.deepcopy(args)
    told = call(*args)
    test.assertEqual(repr(args), repr(kept))
    return told


def any_net(seed):
    """A net that depends on the seed alone, with few marks so that rooms are often alike."""
    chance = random.Random(seed)
    many = chance.randrange(0, 9)
    marks = chance.choice([(0,), (0, 99), (7, 3, 50)])
    every = [(a, m, b) for a in range(many) for m in marks for b in range(many)]
    return many, chance.sample(every, chance.randrange(0, min(len(every), 2 * many) + 1))


def chain(many):
    """Each room has a step to the next one, so the rooms are told apart one by one."""
    return many, [(room, 0, room + 1) for room in range(many - 1)]


def full_steps(many, count):
    """So many unlike steps between the rooms."""
    every = [(a, m, b) for m in range(100) for a in range(many) for b in range(many)]
    return every[:count]
