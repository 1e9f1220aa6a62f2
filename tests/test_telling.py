import unittest

from samesteps.errors import BadNet, BadRoom
from samesteps.nets import beside
from samesteps.rounds import parted_at
from samesteps.sayings import deep, worked
from samesteps.telling import saying_for
from support import (any_net, chain, depths_by_the_words, every_pair, every_step_onward, full_steps,
                     leaves_as_was, refusal, refused_at, so_by_the_words, things)


class TestSayingFor(unittest.TestCase):
    def borne_out(self, net, one, other):
        """There is a saying as deep as told for the rooms, or none for alike ones."""
        told = leaves_as_was(self, saying_for, net, one, other)
        number = parted_at(net, one, other)
        if number is None:
            self.assertIsNone(told)
            return
        self.assertTrue(type(told) is list and 1 <= len(told) <= 2000)
        for so in (worked(net, told)[-1], so_by_the_words(net, told)[-1]):
            self.assertIn(one, so)
            self.assertNotIn(other, so)
        self.assertEqual((deep(told), depths_by_the_words(told)[-1]), (number, number))

    def every_two(self, net):
        for one, other in every_pair(net):
            self.borne_out(net, one, other)

    def test_a_mark_that_one_room_lacks(self):
        net = (2, [(0, 5, 0)])
        self.every_two(net)
        self.assertEqual(deep(saying_for(net, 0, 1)), 1)
        self.assertEqual(deep(saying_for(net, 1, 0)), 1)

    def test_marks_that_each_of_the_rooms_has_alone(self):
        self.every_two((2, [(0, 0, 0), (1, 99, 1)]))
        self.every_two((2, [(0, 0, 0), (0, 7, 0), (1, 7, 1), (1, 99, 1)]))

    def test_rooms_parted_in_later_rounds(self):
        net = (4, [(0, 0, 1), (1, 0, 2), (3, 0, 2)])
        self.every_two(net)
        self.assertEqual(deep(saying_for(net, 0, 1)), 2)
        self.assertEqual(deep(saying_for(net, 1, 0)), 2)

    def test_a_step_that_only_one_of_several_answers(self):
        stop = (4, [(3, 1, 3)])
        self.every_two((4, stop[1] + [(0, 5, 2), (0, 5, 3), (1, 5, 2)]))
        self.every_two((4, stop[1] + [(0, 5, 2), (0, 5, 3), (1, 5, 3)]))
        self.every_two((4, stop[1] + [(0, 5, 2), (1, 5, 3)]))

    def test_a_step_that_is_unlike_each_of_several(self):
        net = (8, [(0, 5, 2), (1, 5, 3), (1, 5, 4), (1, 5, 5), (0, 5, 3), (0, 5, 4), (0, 5, 5),
                   (2, 1, 6), (2, 2, 6), (2, 3, 6), (3, 1, 6), (4, 2, 6), (5, 3, 6)])
        self.every_two(net)

    def test_alike_rooms(self):
        for net in ((3, []), (3, [(0, 4, 1), (1, 4, 2), (2, 4, 0)]),
                    (2, [(0, 4, 1), (1, 4, 0), (1, 4, 1)])):
            for one, other in every_pair(net):
                self.assertIsNone(leaves_as_was(self, saying_for, net, one, other))

    def test_a_room_and_itself(self):
        for net in (chain(5), (1, [(0, 0, 0)]), every_step_onward(6)):
            for room in range(net[0]):
                self.assertIsNone(saying_for(net, room, room))

    def test_many_nets(self):
        for seed in range(200):
            self.every_two(any_net(seed))

    def test_many_rounds(self):
        net = chain(30)
        for one in range(30):
            for other in (0, 1, 14, 28, 29):
                self.borne_out(net, one, other)
                self.borne_out(net, other, one)

    def test_many_rounds_in_which_sayings_could_branch(self):
        back = [(a, 0, b) for a in range(29) for b in range(max(0, a - 5), a + 1)]
        self.assertEqual(parted_at((30, chain(30)[1] + back), 0, 1), 29)
        for net in (every_step_onward(20), (30, every_step_onward(30)[1][:200]),
                    (30, [(a, 0, b) for a in range(30) for b in range(a + 1, min(a + 8, 30))]),
                    (30, chain(30)[1] + back)):
            for one, other in every_pair(net)[::11]:
                self.borne_out(net, one, other)

    def test_the_most_rounds_with_more_steps(self):
        for count in (29, 60, 170):
            more = [(a, 0, b) for a in range(30) for b in range(a + 2, 30)]
            net = (30, chain(30)[1] + [(29, 9, 29)] + more[::-1][:count])
            for one, other in ((0, 1), (1, 0), (0, 29), (29, 0), (5, 6), (14, 7)):
                self.borne_out(net, one, other)

    def test_the_largest_nets(self):
        self.every_two((2, full_steps(2, 200)))
        net = (30, full_steps(30, 200))
        for one, other in every_pair(net)[::29]:
            self.borne_out(net, one, other)

    def test_rooms_of_nets_laid_beside_one_another(self):
        self.every_two(beside(chain(4), (3, [(0, 0, 1), (1, 0, 2), (2, 0, 2)])))

    def test_no_room(self):
        net = (3, [(0, 0, 1)])
        for thing in things() + [3, 30]:
            refusal(self, BadRoom, saying_for, net, thing, 0)
            refusal(self, BadRoom, saying_for, net, 0, thing)
            refusal(self, BadRoom, saying_for, net, thing, thing)
        refusal(self, BadRoom, saying_for, (0, []), 0, 0)
        refusal(self, BadRoom, saying_for, (30, []), 0, 30)
        self.assertIsNone(saying_for((30, []), 0, 29))

    def test_the_net_is_refused_ahead(self):
        for room in (7, -1, True, None, []):
            refused_at(self, BadNet, None, saying_for, (31, []), room, room)
            refused_at(self, BadNet, 1, saying_for, (2, [(0, 0, 0), (0, 0, 0)]), room, 0)
            refused_at(self, BadNet, 0, saying_for, (2, [None]), 0, room)

    def test_what_is_told_is_the_askers_own(self):
        for one, other in ((0, 2), (2, 0), (1, 2)):
            told = saying_for(chain(4), one, other)
            was = list(told)
            told.clear()
            self.assertEqual(saying_for(chain(4), one, other), was)

    def test_what_is_handed_in_is_not_kept(self):
        net = (2, [(0, 5, 0)])
        self.borne_out(net, 0, 1)
        net[1].append((1, 5, 0))
        self.assertIsNone(saying_for(net, 0, 1))
        net[1].append((1, 6, 0))
        self.borne_out(net, 0, 1)


if __name__ == "__main__":
    unittest.main()
