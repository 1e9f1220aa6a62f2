"""Nets: what is one, and two of them laid side by side."""

from samesteps.errors import BadNet, BadRoom, TooMany

MOST_ROOMS = 30
MOST_STEPS = 200
MOST_MARK = 99


def is_number(x, most):
    """Whether x is a whole number from 0 to most."""
    # Not isinstance: True and False are no numbers, and an object can pose as one.
    return type(x) is int and 0 <= x <= most


def is_room(x, many):
    """Whether x is one of so many rooms."""
    return is_number(x, many - 1)


def is_step(x, many):
    """Whether x is a step between two of so many rooms."""
    if not (type(x) is tuple and len(x) == 3):
        return False
    start, mark, end = x
    return is_room(start, many) and is_number(mark, MOST_MARK) and is_room(end, many)


def check_frame(net):
    """Refuse what is no tuple of a number of rooms and a list of not too many steps."""
    if not (type(net) is tuple and len(net) == 2):
        raise BadNet(None)
    many, steps = net
    if not is_number(many, MOST_ROOMS):
        raise BadNet(None)
    if not (type(steps) is list and len(steps) <= MOST_STEPS):
        raise BadNet(None)


def check_net(net):
    """Refuse what is no net."""
    check_frame(net)
    many, steps = net
    seen = set()
    for at, step in enumerate(steps):
        # What is no step is refused before it is looked up: it may have no hash.
        if not is_step(step, many) or step in seen:
            raise BadNet(at)
        seen.add(step)


def check_rooms(net, one, other):
    """Refuse what is no net, then what are no two rooms of it."""
    check_net(net)
    if not (is_room(one, net[0]) and is_room(other, net[0])):
        raise BadRoom("no room of the net")


def leads_of(net):
    """For each room of a checked net its steps, each as its mark and the room to which it leads."""
    many, steps = net
    leads = [[] for _ in range(many)]
    for start, mark, end in steps:
        leads[start].append((mark, end))
    return leads


def beside(one, other):
    """Both nets as one, the rooms of the second one numbered on from the first one's."""
    check_net(one)
    check_net(other)
    many, steps = one
    more, others = other
    if many + more > MOST_ROOMS or len(steps) + len(others) > MOST_STEPS:
        raise TooMany("more rooms or steps than a net may have")
    moved = [(start + many, mark, end + many) for start, mark, end in others]
    return many + more, steps + moved
