import unittest

from samesteps.errors import BadNet
from samesteps.least import least
from samesteps.nets import beside
from samesteps.rounds import alike, rounds
from support import any_net, chain, every_step_onward, full_steps, leaves_as_was, refused_at, things

NETS = [any_net(seed) for seed in range(250)] + [
    (0, []), (30, []), chain(15), every_step_onward(10), (2, full_steps(2, 99)), (15, full_steps(15, 100))]


def merged(net, parts):
    """The least net's steps, told word by word."""
    many = len(set(parts))
    return [(x, mark, y) for x in range(many) for mark in range(100) for y in range(many)
            if any(by == mark and parts[a] == x and parts[b] == y for a, by, b in net[1])]


class TestLeast(unittest.TestCase):
    def told(self, net, expected):
        told = leaves_as_was(self, least, net)
        self.assertEqual(told, expected)
        self.assertEqual([type(told), type(told[0]), type(told[0][1]), type(told[1])],
                         [tuple, tuple, list, list])

    def test_a_net_without_rooms(self):
        self.told((0, []), ((0, []), []))

    def test_nets_without_steps(self):
        self.told((1, []), ((1, []), [0]))
        self.told((4, []), ((1, []), [0, 0, 0, 0]))
        self.told((30, []), ((1, []), [0] * 30))

    def test_rooms_that_are_all_alike_with_steps(self):
        self.told((1, [(0, 4, 0)]), ((1, [(0, 4, 0)]), [0]))
        self.told((3, [(0, 4, 1), (1, 4, 2), (2, 4, 0)]), ((1, [(0, 4, 0)]), [0, 0, 0]))
        self.told((2, [(0, 9, 1), (0, 4, 0), (1, 4, 0), (1, 9, 1)]),
                  ((1, [(0, 4, 0), (0, 9, 0)]), [0, 0]))

    def test_rooms_that_are_all_unlike(self):
        self.told(chain(4), (chain(4), [0, 1, 2, 3]))
        self.told((3, [(2, 0, 1), (1, 0, 0)]), ((3, [(1, 0, 0), (2, 0, 1)]), [0, 1, 2]))

    def test_some_rooms_alike(self):
        self.told((4, [(3, 5, 2), (0, 5, 1)]), ((2, [(0, 5, 1)]), [0, 1, 1, 0]))
        self.told((5, [(0, 5, 4), (1, 5, 3), (2, 5, 3), (2, 5, 0)]),
                  ((3, [(0, 5, 2), (1, 5, 0), (1, 5, 2)]), [0, 0, 1, 2, 2]))

    def test_the_steps_rise_and_none_stands_there_twice(self):
        net = (4, [(2, 9, 1), (0, 9, 3), (0, 2, 1), (2, 2, 3), (2, 2, 1), (0, 9, 1)])
        self.told(net, ((2, [(0, 2, 1), (0, 9, 1)]), [0, 1, 0, 1]))
        for net in NETS:
            steps = least(net)[0][1]
            self.assertEqual(steps, sorted(set(steps)))

    def test_the_parts_are_those_of_the_last_round(self):
        for net in NETS:
            (many, steps), parts = leaves_as_was(self, least, net)
            self.assertEqual(parts, rounds(net)[-1])
            self.assertEqual(many, len(set(parts)))
            self.assertEqual(steps, merged(net, parts))

    def test_each_room_is_alike_with_its_part(self):
        fitting = [net for net in NETS if net[0] <= 15 and len(net[1]) <= 100]
        self.assertGreater(len(fitting), 240)
        for net in fitting:
            small, parts = least(net)
            both = beside(net, small)
            for room, part in enumerate(parts):
                self.assertIs(alike(both, room, net[0] + part), True)
            for one in range(small[0]):
                for other in range(one):
                    self.assertIs(alike(both, net[0] + one, net[0] + other), False)
                    self.assertIs(alike(small, one, other), False)

    def test_the_least_net_of_a_least_net_is_itself(self):
        for net in NETS:
            small = least(net)[0]
            self.told(small, (small, list(range(small[0]))))

    def test_the_order_of_the_steps_does_not_matter(self):
        for many, steps in NETS:
            self.assertEqual(least((many, steps[::-1])), least((many, steps)))

    def test_no_net(self):
        for thing in things():
            refused_at(self, BadNet, None, least, thing)
        refused_at(self, BadNet, 1, least, (2, [(0, 0, 0), (0, 0, 0)]))

    def test_what_is_told_is_the_askers_own(self):
        for net in (chain(3), (0, []), (2, [])):
            told = least(net)
            was = ((told[0][0], list(told[0][1])), list(told[1]))
            told[0][1].append("mine")
            told[1].append("mine")
            self.assertEqual(least(net), was)
        self.assertEqual(chain(3), (3, [(0, 0, 1), (1, 0, 2)]))

    def test_what_is_handed_in_is_not_told(self):
        net = chain(3)
        told = least(net)
        net[1].append((2, 0, 2))
        self.assertEqual(told, ((3, [(0, 0, 1), (1, 0, 2)]), [0, 1, 2]))
        self.told(net, ((1, [(0, 0, 0)]), [0, 0, 0]))


if __name__ == "__main__":
    unittest.main()
