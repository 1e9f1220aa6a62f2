"""The least net: one room for all that are alike."""

from samesteps.nets import check_net
from samesteps.rounds import rounds_of


def least(net):
    """The least net, and for each room its part, which is its room there."""
    check_net(net)
    parts = rounds_of(net)[-1]
    steps = sorted({(parts[start], mark, parts[end]) for start, mark, end in net[1]})
    return (len(set(parts)), steps), parts
