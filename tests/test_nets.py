import unittest

from samesteps import nets
from samesteps.errors import BadNet, TooMany
from samesteps.nets import beside
from support import any_net, full_steps, leaves_as_was, refusal, refused_at


class TestBeside(unittest.TestCase):
    def told(self, one, other, net):
        told = leaves_as_was(self, beside, one, other)
        self.assertEqual(told, net)
        self.assertIs(type(told), tuple)
        self.assertIs(type(told[1]), list)

    def test_it_is_defined_in_its_file(self):
        self.assertEqual(nets.beside.__module__, "samesteps.nets")

    def test_the_rooms_of_the_second_are_numbered_on(self):
        self.told((2, [(0, 3, 1)]), (3, [(0, 4, 2), (1, 99, 1)]),
                  (5, [(0, 3, 1), (2, 4, 4), (3, 99, 3)]))

    def test_rooms_without_steps_count(self):
        self.told((4, []), (2, [(1, 0, 0)]), (6, [(5, 0, 4)]))
        self.told((2, [(1, 0, 0)]), (4, []), (6, [(1, 0, 0)]))
        self.told((4, []), (2, []), (6, []))

    def test_a_net_without_rooms_on_either_side(self):
        net = (3, [(2, 1, 0), (0, 1, 2)])
        self.told((0, []), net, net)
        self.told(net, (0, []), net)
        self.told((0, []), (0, []), (0, []))

    def test_the_steps_stand_in_their_order(self):
        one = (3, [(2, 1, 0), (0, 9, 2), (1, 1, 1), (0, 1, 0)])
        other = (2, [(1, 8, 0), (0, 8, 0), (1, 2, 1)])
        self.told(one, other, (5, one[1] + [(4, 8, 3), (3, 8, 3), (4, 2, 4)]))
        self.told(other, one, (5, other[1] + [(4, 1, 2), (2, 9, 4), (3, 1, 3), (2, 1, 2)]))

    def test_a_net_beside_itself(self):
        net = (2, [(1, 5, 0), (0, 5, 0)])
        self.told(net, net, (4, [(1, 5, 0), (0, 5, 0), (3, 5, 2), (2, 5, 2)]))

    def test_many_nets(self):
        for seed in range(60):
            one, other = any_net(seed), any_net(seed + 1000)
            steps = list(one[1])
            for start, mark, end in other[1]:
                steps.append((one[0] + start, mark, one[0] + end))
            self.told(one, other, (one[0] + other[0], steps))

    def test_thirty_rooms_are_the_most(self):
        for many in (0, 1, 13, 29, 30):
            self.told((many, []), (30 - many, []), (30, []))
        for many, more in ((30, 1), (1, 30), (15, 16), (30, 30)):
            refusal(self, TooMany, beside, (many, []), (more, []))

    def test_two_hundred_steps_are_the_most(self):
        whole = full_steps(2, 200)
        for count in (0, 1, 77, 199, 200):
            told = beside((2, whole[:count]), (2, whole[:200 - count]))
            self.assertEqual((told[0], len(told[1])), (4, 200))
        for count, more in ((200, 1), (1, 200), (100, 101), (200, 200)):
            refusal(self, TooMany, beside, (2, whole[:count]), (2, whole[:more]))

    def test_thirty_rooms_and_two_hundred_steps_at_once(self):
        told = beside((15, full_steps(15, 100)), (15, full_steps(15, 100)))
        self.assertEqual((told[0], len(told[1]), len(set(told[1]))), (30, 200, 200))
        self.assertEqual(beside(told, (0, [])), told)

    def test_the_first_net_is_refused_ahead_of_the_second(self):
        first = (2, [(0, 0, 0), None])
        second = (2, [(0, 0, 0), (0, 0, 1), None])
        refused_at(self, BadNet, 1, beside, first, second)
        refused_at(self, BadNet, 2, beside, second, first)
        refused_at(self, BadNet, 1, beside, first, None)
        refused_at(self, BadNet, None, beside, None, first)
        refused_at(self, BadNet, 1, beside, first, (31, []))

    def test_nets_are_refused_ahead_of_too_many(self):
        refused_at(self, BadNet, 0, beside, (30, []), (30, [None]))
        refused_at(self, BadNet, 0, beside, (30, [None]), (30, []))
        refused_at(self, BadNet, None, beside, (30, []), (31, []))
        refused_at(self, BadNet, None, beside, (1, []), (1, [None] * 201))
        refused_at(self, BadNet, 200 - 1, beside, (2, full_steps(2, 199) + [None]),
                   (2, full_steps(2, 200)))

    def test_what_is_told_is_the_askers_own(self):
        one, other = (2, [(0, 0, 1)]), (0, [])
        for handed in ((one, other), (other, one), (other, other)):
            told = beside(*handed)
            was = list(told[1])
            told[1].append("mine")
            self.assertEqual(beside(*handed), (told[0], was))
        self.assertEqual((one, other), ((2, [(0, 0, 1)]), (0, [])))

    def test_what_is_handed_in_is_not_kept(self):
        one, other = (2, [(0, 0, 1)]), (2, [(1, 0, 1)])
        told = beside(one, other)
        one[1].append((1, 7, 1))
        other[1].clear()
        self.assertEqual(told, (4, [(0, 0, 1), (3, 0, 3)]))
        self.assertEqual(beside(one, other), (4, [(0, 0, 1), (1, 7, 1)]))


if __name__ == "__main__":
    unittest.main()
