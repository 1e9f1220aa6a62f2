"""Rounds: rooms parted round by round, by where their steps lead."""

from samesteps.nets import check_net, check_room


def leads_of(ahead, steps):
    """For each room the marks of its steps, each with the part of the round ahead it leads to."""
    leads = [[] for _ in ahead]
    for start, mark, end in steps:
        leads[start].append((mark, ahead[end]))
    return leads


def round_behind(ahead, steps):
    """The round that follows on the one ahead."""
    leads = leads_of(ahead, steps)
    numbers = {}
    parts = []
    for room, part in enumerate(ahead):
        # Several steps of one mark to one part count as one, in whatever order they stand.
        key = (part, tuple(sorted(set(leads[room]))))
        parts.append(numbers.setdefault(key, len(numbers)))
    return parts


def rounds_of(net):
    """The rounds of a net that has been checked."""
    many, steps = net
    told = [[0] * many]
    behind = round_behind(told[-1], steps)
    # Parts are numbered by their least rooms, so rounds that part alike are equal lists.
    while behind != told[-1]:
        told.append(behind)
        behind = round_behind(behind, steps)
    return told


def rounds(net):
    """All rounds up to the last one that parts more than the one ahead."""
    check_net(net)
    return rounds_of(net)


def parted_at(net, one, other):
    """The number of the first round that parts the two rooms, None of alike ones."""
    check_net(net)
    check_room(net, one)
    check_room(net, other)
    for number, parts in enumerate(rounds_of(net)):
        if parts[one] != parts[other]:
            return number
    return None


def alike(net, one, other):
    """Whether no round parts the two rooms."""
    return parted_at(net, one, other) is None
