"""Rounds: rooms parted round by round, by where their steps lead."""

from samesteps.nets import check_net, check_rooms, leads_of


def round_behind(ahead, leads):
    """The round that follows on the one ahead."""
    numbers = {}
    parts = []
    for room, part in enumerate(ahead):
        # Several steps of one mark to one part count as one, in whatever order they stand.
        reached = sorted({(mark, ahead[end]) for mark, end in leads[room]})
        parts.append(numbers.setdefault((part, tuple(reached)), len(numbers)))
    return parts


def rounds_of(net):
    """The rounds of a net that has been checked."""
    leads = leads_of(net)
    told = [[0] * net[0]]
    behind = round_behind(told[-1], leads)
    # Parts are numbered by their least rooms, so rounds that part alike are equal lists.
    while behind != told[-1]:
        told.append(behind)
        behind = round_behind(behind, leads)
    return told


def first_parting(told, one, other):
    """The number of the first of the told rounds that parts the two rooms, None of alike ones."""
    for number, parts in enumerate(told):
        if parts[one] != parts[other]:
            return number
    return None


def rounds(net):
    """All rounds up to the last one that parts more than the one ahead."""
    check_net(net)
    return rounds_of(net)


def parted_at(net, one, other):
    """The number of the first round that parts the two rooms, None of alike ones."""
    check_rooms(net, one, other)
    return first_parting(rounds_of(net), one, other)


def alike(net, one, other):
    """Whether no round parts the two rooms."""
    return parted_at(net, one, other) is None
