"""Closed lists of pairs: rooms that answer each other's steps, and go on doing so."""

from samesteps.errors import BadPairs
from samesteps.nets import check_net, check_rooms, is_room, leads_of
from samesteps.rounds import rounds_of


def is_pair(x, many):
    """Whether x is a tuple of two of so many rooms."""
    return type(x) is tuple and len(x) == 2 and is_room(x[0], many) and is_room(x[1], many)


def check_pairs(pairs, many):
    """Refuse what is no list of unlike pairs of so many rooms."""
    if type(pairs) is not list:
        raise BadPairs("no list of pairs")
    seen = set()
    for pair in pairs:
        # What is no pair is refused before it is looked up: it may have no hash.
        if not is_pair(pair, many) or pair in seen:
            raise BadPairs("no list of unlike pairs of rooms")
        seen.add(pair)


def firsts_answered(leads, pairs):
    """Whether in each pair the second room answers each step of the first one."""
    listed = {pair: True for pair in pairs}
    for first, second in pairs:
        for mark, end in leads[first]:
            if not any([by == mark and (end, far) in listed for by, far in leads[second]]):
                return False
    return True


def is_closed(net, pairs):
    """Whether in each pair either room answers each step of the other one."""
    check_net(net)
    check_pairs(pairs, net[0])
    leads = leads_of(net)
    turned = [(second, first) for first, second in pairs]
    return firsts_answered(leads, pairs) and firsts_answered(leads, turned)


def closed_pairs(net, one, other):
    """A closed list of pairs with (one, other) in it, rising, None of unlike rooms."""
    check_rooms(net, one, other)
    parts = rounds_of(net)[-1]
    if parts[one] != parts[other]:
        return None
    # As no later round parts more, all pairs of alike rooms together are a closed list.
    rooms = range(net[0])
    return [(first, second) for first in rooms for second in rooms if parts[first] == parts[second]]
