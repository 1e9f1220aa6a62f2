"""What the document promises over the whole program: rounds, pairs, sayings and least nets agree."""

import unittest

from samesteps.least import least
from samesteps.pairs import closed_pairs, is_closed
from samesteps.rounds import alike, parted_at, rounds
from samesteps.sayings import deep, worked
from samesteps.telling import saying_for
from support import any_net, any_saying, chain, every_pair, small_nets

NETS = [any_net(seed) for seed in range(100)] + [chain(9)]


def all_that_can_be_said(net, deepest):
    """A saying with a row for each set of rooms that some saying no deeper is so of."""
    rows, depths, found = [], [], {}

    def say(row, depth):
        rows.append(row)
        so = tuple(worked(net, rows)[-1])
        if so in found:
            rows.pop()
        else:
            found[so] = len(rows) - 1
            depths.append(depth)

    def close(depth):
        count = 0
        while count < len(rows):
            count = len(rows)
            for one in range(count):
                say(("not", one), depth)
                for other in range(one):
                    say(("and", (one, other)), depth)

    say(("yes",), 0)
    close(0)
    for depth in range(1, deepest + 1):
        for ahead in range(len(rows)):
            for mark in sorted({mark for _, mark, _ in net[1]}):
                say(("may", mark, ahead), depth)
                say(("must", mark, ahead), depth)
        close(depth)
    return rows, depths


class TestWhole(unittest.TestCase):
    def test_alike_is_said_in_three_ways(self):
        for net in NETS:
            for one, other in every_pair(net):
                together = alike(net, one, other)
                pairs = closed_pairs(net, one, other)
                rows = saying_for(net, one, other)
                self.assertIs(pairs is not None, together)
                self.assertIs(rows is None, together)
                if together:
                    self.assertTrue(is_closed(net, pairs) and (one, other) in pairs)
                else:
                    so = worked(net, rows)[-1]
                    self.assertEqual((one in so, other in so), (True, False))
                    self.assertEqual(deep(rows), parted_at(net, one, other))

    def test_no_saying_parts_rooms_ahead_of_their_round(self):
        for seed, net in enumerate(NETS):
            rows = any_saying(seed, 80)
            so = worked(net, rows)
            depths = [deep(rows[:end + 1]) for end in range(len(rows))]
            for one, other in every_pair(net):
                number = parted_at(net, one, other)
                for told, depth in zip(so, depths):
                    if (one in told) != (other in told):
                        self.assertTrue(number is not None and number <= depth)

    def test_all_that_can_be_said_of_small_nets(self):
        for net in small_nets(40):
            deepest = len(rounds(net))
            rows, depths = all_that_can_be_said(net, deepest)
            so = worked(net, rows)
            self.assertEqual(depths, [deep(rows[:end + 1]) for end in range(len(rows))])
            for one, other in every_pair(net):
                parting = [depth for told, depth in zip(so, depths) if (one in told) != (other in told)]
                self.assertEqual(parted_at(net, one, other), min(parting, default=None))

    def test_the_least_net_has_no_room_too_many(self):
        for net in NETS:
            small, parts = least(net)
            for one, other in every_pair(net):
                self.assertIs(parts[one] == parts[other], alike(net, one, other))
            for one, other in every_pair(small):
                self.assertIs(saying_for(small, one, other) is None, one == other)


if __name__ == "__main__":
    unittest.main()
