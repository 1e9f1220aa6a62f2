"""Sayings: rows that say something of rooms, each built on rows ahead of it."""

from samesteps.errors import BadSaying
from samesteps.nets import MOST_MARK, check_net, is_number

MOST_ROWS = 2000


def are_ahead(x, at):
    """Whether x is a tuple of numbers of rows that stand ahead of that place."""
    return type(x) is tuple and all([is_number(row, at - 1) for row in x])


def is_row(x, at):
    """Whether x can be a saying's row at that place."""
    # A first part that is no string is not compared: its own kind could say that it is equal.
    if not (type(x) is tuple and len(x) > 0 and type(x[0]) is str):
        return False
    kind, *parts = x
    if kind == "yes":
        return len(parts) == 0
    if kind == "not":
        return len(parts) == 1 and is_number(parts[0], at - 1)
    if kind == "and":
        return len(parts) == 1 and are_ahead(parts[0], at)
    if kind in ("may", "must"):
        return len(parts) == 2 and is_number(parts[0], MOST_MARK) and is_number(parts[1], at - 1)
    return False


def check_saying(rows):
    """Refuse what is no saying."""
    if not (type(rows) is list and 0 < len(rows) <= MOST_ROWS):
        raise BadSaying(None)
    for at, row in enumerate(rows):
        if not is_row(row, at):
            raise BadSaying(at)


def leading_to(rooms, mark, steps):
    """The rooms from which some step of that mark leads to one of the rooms, both as bits."""
    found = 0
    for start, by, end in steps:
        if by == mark and rooms >> end & 1:
            found |= 1 << start
    return found


def in_all(numbers, so, every):
    """The rooms of which all of these rows are so, as bits."""
    found = every
    for number in numbers:
        found &= so[number]
    return found


def rooms_of(row, so, every, steps):
    """The rooms of which the row is so, as bits; `so` has those of the rows ahead."""
    kind = row[0]
    if kind == "yes":
        return every
    if kind == "not":
        return every ^ so[row[1]]
    if kind == "and":
        return in_all(row[1], so, every)
    mark, rooms = row[1], so[row[2]]
    if kind == "may":
        return leading_to(rooms, mark, steps)
    # All steps lead to such rooms just where none leads to a room that is no such one.
    return every ^ leading_to(every ^ rooms, mark, steps)


def depth_of(row, depths):
    """How deep the row is; `depths` has it of the rows ahead."""
    kind = row[0]
    if kind == "yes":
        return 0
    if kind == "not":
        return depths[row[1]]
    if kind == "and":
        return max([depths[number] for number in row[1]], default=0)
    return depths[row[2]] + 1


def worked(net, rows):
    """For each row the rooms of which it is so, rising."""
    check_net(net)
    check_saying(rows)
    many, steps = net
    every = (1 << many) - 1
    so = []
    for row in rows:
        so.append(rooms_of(row, so, every, steps))
    return [[room for room in range(many) if bits >> room & 1] for bits in so]


def deep(rows):
    """How deep the saying is."""
    check_saying(rows)
    depths = []
    for row in rows:
        depths.append(depth_of(row, depths))
    return depths[-1]
