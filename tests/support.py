"""What several test files share: nets, things of any kind, and how a refusal is checked."""

import copy
import random
import sys


class Posing:
    """Claims to be a whole number."""

    __class__ = int


class Agreeing:
    """Says that it is equal to everything, and compares with everything."""

    def __eq__(self, other):
        return True

    __le__ = __ge__ = __lt__ = __gt__ = __eq__

    def __hash__(self):
        return 0

    def __len__(self):
        return 2

    def __iter__(self):
        return iter((0, []))

    def __index__(self):
        return 0


class Wild:
    """Fails whatever it is asked."""

    def fail(self, *rest):
        raise RuntimeError("asked")

    __eq__ = __ne__ = __lt__ = __le__ = __gt__ = __ge__ = fail
    __hash__ = __len__ = __iter__ = __bool__ = __getitem__ = __contains__ = fail
    __index__ = __int__ = __str__ = __repr__ = __format__ = fail


def holding_itself():
    rows = []
    rows.append(rows)
    return rows


def deep_tuple():
    nested = ()
    for _ in range(5000):
        nested = (nested,)
    return nested


def things():
    """Things of many kinds, none of which is a number, a room, a step or a net."""
    return [
        None, True, False, "", "0", "ab", "abc", b"", b"\x00", b"ab", b"abc",
        [], [0], [0, []], [0, 0, 0], (), (0,), (None, None), ([], 0),
        {}, {0: 0}, {0: 0, 1: []}, set(), {0}, {0, 1, 2}, frozenset({0}),
        range(1), range(2), range(3), iter([]), (x for x in ()), slice(0), bytearray(b"ab"),
        object(), int, list, len, lambda: 0, ..., NotImplemented, ValueError("x"), sys, 1j,
        Posing(), Agreeing(), Wild(), Posing, holding_itself(), deep_tuple(),
        "9" * 300, memoryview(b"ab"), 10 ** 40, -(10 ** 40), -1,
    ]


def things_but(*kinds):
    """The things that are not of one of these kinds."""
    return [x for x in things() if type(x) not in kinds]


def refusal(test, error, call, *args):
    """The error with which the call refuses: it is of that very class."""
    with test.assertRaises(error) as caught:
        call(*args)
    test.assertIs(type(caught.exception), error)
    return caught.exception


def refused_at(test, error, at, call, *args):
    """The call refuses with that error at that place."""
    told = refusal(test, error, call, *args).at
    test.assertEqual(told, at)
    test.assertIs(type(told), type(at))


def leaves_as_was(test, call, *args):
    """What the call tells; what it was handed stays as it was."""
    kept = copy.deepcopy(args)
    told = call(*args)
    test.assertEqual(repr(args), repr(kept))
    return told


def any_net(seed):
    """A net that depends on the seed alone, with few marks so that rooms are often alike."""
    chance = random.Random(seed)
    many = chance.randrange(0, 9)
    marks = chance.choice([(0,), (0, 99), (7, 3, 50)])
    every = [(a, m, b) for a in range(many) for m in marks for b in range(many)]
    return many, chance.sample(every, chance.randrange(0, min(len(every), 2 * many) + 1))


def chain(many):
    """Each room has a step to the next one, so the rooms are told apart one by one."""
    return many, [(room, 0, room + 1) for room in range(many - 1)]


def full_steps(many, count):
    """So many unlike steps between the rooms."""
    every = [(a, m, b) for m in range(100) for a in range(many) for b in range(many)]
    return every[:count]


def small_nets(count):
    """Nets of few rooms and steps, so that many of their rooms are alike."""
    return [net for net in map(any_net, range(10 * count)) if 0 < net[0] <= 4][:count]


def every_step_onward(many):
    """Each room has a step of one mark to each later one: sayings could branch again and again."""
    return many, [(a, 0, b) for a in range(many) for b in range(a + 1, many)]


def every_pair(net):
    """All tuples of two rooms, those of a room and itself, too."""
    return [(a, b) for a in range(net[0]) for b in range(net[0])]


def any_saying(seed, length):
    """A saying that depends on the seed alone, with the marks that any_net has."""
    chance = random.Random(seed)
    rows = []
    for at in range(length):
        kind = chance.choice(["not", "and", "may", "must", "may"]) if at else "yes"
        if kind == "yes" or chance.random() < 0.03:
            rows.append(("yes",))
        elif kind == "not":
            rows.append(("not", chance.randrange(at)))
        elif kind == "and":
            rows.append(("and", tuple(chance.choices(range(at), k=chance.randrange(4)))))
        else:
            rows.append((kind, chance.choice([0, 99, 7, 3, 50]), chance.randrange(at)))
    return rows


def so_by_the_words(net, rows):
    """For each row the set of rooms of which it is so, told word by word."""
    many, steps = net
    so = []

    def led(room, mark):
        return [end for start, by, end in steps if start == room and by == mark]

    for row in rows:
        tests = {
            "yes": lambda room: True,
            "not": lambda room: room not in so[row[1]],
            "and": lambda room: all(room in so[number] for number in row[1]),
            "may": lambda room: any(end in so[row[2]] for end in led(room, row[1])),
            "must": lambda room: all(end in so[row[2]] for end in led(room, row[1])),
        }
        so.append({room for room in range(many) if tests[row[0]](room)})
    return so


def depths_by_the_words(rows):
    """How deep each row is, told word by word."""
    depths = []
    for row in rows:
        over = {"yes": (), "not": row[1:], "and": row[-1], "may": row[2:], "must": row[2:]}[row[0]]
        deepest = max((depths[number] for number in over), default=0)
        depths.append(deepest + (row[0] in ("may", "must")))
    return depths
