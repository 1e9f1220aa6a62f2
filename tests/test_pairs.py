import unittest

from samesteps.errors import BadNet, BadPairs, BadRoom
from samesteps.pairs import closed_pairs, is_closed
from samesteps.rounds import alike
from support import (any_net, chain, every_pair, full_steps, leaves_as_was, refusal, refused_at,
                     small_nets, things, things_but)

NETS = [any_net(seed) for seed in range(120)] + [chain(12), (30, []), (2, full_steps(2, 200))]


def closed_by_the_words(net, pairs):
    """Whether the list is closed, told word by word."""
    def steps_of(room):
        return [(mark, end) for start, mark, end in net[1] if start == room]

    for a, b in pairs:
        for mark, x in steps_of(a):
            if not any(by == mark and (x, y) in pairs for by, y in steps_of(b)):
                return False
        for mark, y in steps_of(b):
            if not any(by == mark and (x, y) in pairs for by, x in steps_of(a)):
                return False
    return True


class TestIsClosed(unittest.TestCase):
    def told(self, net, pairs, expected):
        self.assertIs(leaves_as_was(self, is_closed, net, pairs), expected)

    def test_the_empty_list_is_closed(self):
        for net in ((0, []), (1, [(0, 0, 0)]), chain(5)):
            self.told(net, [], True)

    def test_rooms_without_steps_make_a_pair(self):
        self.told((3, []), [(0, 1)], True)
        self.told((3, []), [(2, 0), (0, 0), (1, 2)], True)

    def test_a_step_of_the_first_room_that_is_not_answered(self):
        self.told((3, [(0, 5, 2)]), [(0, 1)], False)
        self.told((3, [(0, 5, 2)]), [(0, 1), (2, 2)], False)

    def test_a_step_of_the_second_room_that_is_not_answered(self):
        self.told((3, [(1, 5, 2)]), [(0, 1)], False)
        self.told((3, [(1, 5, 2)]), [(0, 1), (2, 2)], False)

    def test_one_step_answers_several(self):
        net = (5, [(0, 5, 2), (0, 5, 3), (1, 5, 4)])
        self.told(net, [(0, 1), (2, 4), (3, 4)], True)
        self.told(net, [(0, 1), (2, 4)], False)
        self.told(net, [(1, 0), (4, 2), (4, 3)], True)
        self.told(net, [(1, 0), (4, 2)], False)

    def test_the_answer_has_the_same_mark(self):
        self.told((4, [(0, 5, 2), (1, 6, 3)]), [(0, 1), (2, 3)], False)
        self.told((4, [(0, 5, 2), (1, 5, 3)]), [(0, 1), (2, 3)], True)
        self.told((4, [(0, 0, 2), (1, 0, 3), (1, 99, 3)]), [(0, 1), (2, 3)], False)
        self.told((4, [(0, 0, 2), (0, 99, 2), (1, 0, 3)]), [(0, 1), (2, 3)], False)

    def test_the_rooms_to_which_both_lead_are_a_pair_in_this_order(self):
        net = (4, [(0, 5, 2), (1, 5, 3)])
        self.told(net, [(0, 1)], False)
        self.told(net, [(0, 1), (3, 2)], False)
        self.told(net, [(1, 0), (3, 2)], True)
        self.told(net, [(1, 0), (2, 3)], False)
        self.told(net, [(0, 1), (2, 2), (3, 3)], False)

    def test_the_order_matters_for_steps_of_the_second_room_alone(self):
        net = (6, [(0, 5, 2), (1, 5, 3), (1, 5, 4)])
        self.told(net, [(0, 1), (2, 3), (2, 4)], True)
        self.told(net, [(0, 1), (2, 3), (4, 2)], False)

    def test_a_pair_and_its_turned_one_are_unlike(self):
        self.told((2, [(0, 5, 1), (1, 5, 0)]), [(0, 1), (1, 0)], True)
        self.told((2, [(0, 5, 1), (1, 5, 0)]), [(0, 1)], False)

    def test_the_pairs_reached_must_be_closed_in_their_turn(self):
        self.told((4, [(0, 5, 2), (1, 5, 3), (2, 7, 0)]), [(0, 1), (2, 3)], False)
        self.told((4, [(0, 5, 2), (1, 5, 3), (2, 7, 0), (3, 7, 1)]), [(0, 1), (2, 3)], True)

    def test_pairs_of_a_room_and_itself(self):
        for many, steps in NETS:
            self.told((many, steps), [(room, room) for room in range(many)], True)
        self.told(chain(4), [(3, 3)], True)
        self.told(chain(4), [(2, 2), (3, 3)], True)
        self.told(chain(4), [(2, 2)], False)
        self.told((2, [(0, 5, 0), (0, 5, 1)]), [(0, 0), (1, 1)], True)
        self.told((2, [(0, 5, 0), (0, 5, 1)]), [(0, 0)], False)

    def test_steps_to_the_rooms_themselves(self):
        self.told((2, [(0, 5, 0), (1, 5, 1)]), [(0, 1)], True)
        self.told((2, [(0, 5, 0), (1, 5, 0)]), [(0, 1)], False)
        self.told((2, [(0, 5, 0), (1, 5, 0)]), [(0, 1), (0, 0)], True)

    def test_the_list_stands_in_any_order(self):
        net = (4, [(0, 5, 2), (1, 5, 3), (2, 5, 0), (3, 5, 1)])
        for pairs in ([(0, 1), (2, 3)], [(2, 3), (0, 1)], [(3, 2), (0, 1), (1, 0), (2, 3)]):
            self.told(net, pairs, True)
        for pairs in ([(0, 1), (3, 2)], [(3, 2), (0, 1)], [(3, 2), (2, 3), (0, 1)]):
            self.told(net, pairs, False)

    def test_the_words_told_over_every_list_of_small_nets(self):
        for net in small_nets(12):
            every = every_pair(net)[:9]
            for chosen in range(2 ** len(every)):
                pairs = [pair for k, pair in enumerate(every) if chosen >> k & 1]
                self.assertIs(is_closed(net, pairs), closed_by_the_words(net, pairs))
                self.assertIs(is_closed(net, pairs[::-1]), closed_by_the_words(net, pairs))

    def test_the_longest_list_of_the_largest_net(self):
        net = (30, full_steps(30, 200))
        self.told((30, []), every_pair((30, [])), True)
        self.told(net, every_pair(net), False)
        self.told(net, [(room, room) for room in range(30)], True)


class TestBadPairs(unittest.TestCase):
    net = (3, [(0, 5, 1)])

    def refused(self, pairs, net=None):
        refusal(self, BadPairs, is_closed, net or self.net, pairs)

    def test_no_list(self):
        for thing in things_but(list):
            self.refused(thing)
        for pairs in (((1, 2),), {(1, 2)}, {(1, 2): 0}, iter([(1, 2)]), (), "12"):
            self.refused(pairs)

    def test_no_tuple_of_two(self):
        for thing in things():
            self.refused([thing])
            self.refused([(1, 2), thing, (2, 1)])
        for pair in ((1,), (1, 2, 1), [1, 2], {1, 2}, {1: 0, 2: 0}, "12", b"\x01\x02", ((1, 2),)):
            self.refused([pair])
            self.refused([(2, 2), pair])

    def test_no_room(self):
        for thing in things():
            self.refused([(thing, 0)])
            self.refused([(0, thing)])
            self.refused([(1, 2), (2, 1), (thing, thing)])
        for room in (True, False, -1, 3, 4, 30, "0", None):
            self.refused([(room, 1)])
            self.refused([(1, room)])

    def test_the_last_room_and_the_first_one_beyond(self):
        self.assertIs(is_closed((30, []), [(29, 0), (0, 29)]), True)
        self.refused([(30, 0)], (30, []))
        self.refused([(0, 30)], (30, []))
        self.refused([(0, 0)], (0, []))
        self.refused([(0, 1)], (1, []))

    def test_one_pair_twice(self):
        self.refused([(1, 2), (1, 2)])
        self.refused([(0, 0), (0, 0)])
        self.refused([(1, 2), (2, 1), (0, 0), (1, 2)])
        self.refused(every_pair(self.net) * 2)
        self.refused([(1, 2)] * 3000)

    def test_it_is_refused_of_lists_that_would_not_be_closed(self):
        self.refused([(0, 1), (0, 1)])
        self.refused([(0, 1), None])

    def test_a_refused_list_stays_as_it_was(self):
        pairs = [(2, 1), (1, 2), [7], (1, 2)]
        self.refused(pairs)
        self.assertEqual(pairs, [(2, 1), (1, 2), [7], (1, 2)])

    def test_the_net_is_refused_ahead(self):
        for pairs in (None, [None], [(0, 0), (0, 0)], [(9, 0)]):
            refused_at(self, BadNet, None, is_closed, (31, []), pairs)
            refused_at(self, BadNet, 1, is_closed, (3, [(0, 0, 0), None]), pairs)


class TestClosedPairs(unittest.TestCase):
    def borne_out(self, net, one, other):
        told = leaves_as_was(self, closed_pairs, net, one, other)
        self.assertIs(type(told), list)
        self.assertIn((one, other), told)
        self.assertEqual(told, sorted(set(told)))
        for pair in told:
            self.assertEqual([type(pair)] + [type(room) for room in pair], [tuple, int, int])
        self.assertIs(is_closed(net, told), True)
        self.assertTrue(closed_by_the_words(net, told))

    def test_alike_rooms(self):
        self.borne_out((3, []), 2, 1)
        self.borne_out((4, [(0, 5, 2), (1, 5, 3)]), 0, 1)
        self.borne_out((4, [(0, 5, 2), (1, 5, 3)]), 3, 2)
        self.borne_out((3, [(0, 5, 1), (1, 5, 2), (2, 5, 0)]), 2, 0)

    def test_a_room_and_itself(self):
        self.borne_out((1, []), 0, 0)
        for room in range(5):
            self.borne_out(chain(5), room, room)

    def test_unlike_rooms(self):
        for one in range(5):
            for other in range(5):
                if one != other:
                    self.assertIsNone(leaves_as_was(self, closed_pairs, chain(5), one, other))
        self.assertIsNone(closed_pairs((2, [(0, 5, 0)]), 0, 1))
        self.assertIsNone(closed_pairs((2, [(0, 5, 0)]), 1, 0))

    def test_some_list_has_them_just_where_they_are_alike(self):
        for net in NETS:
            for one, other in every_pair(net)[::7]:
                if alike(net, one, other):
                    self.borne_out(net, one, other)
                else:
                    self.assertIsNone(closed_pairs(net, one, other))

    def test_no_closed_list_of_a_small_net_pairs_unlike_rooms(self):
        for net in small_nets(12):
            every = every_pair(net)[:9]
            for chosen in range(2 ** len(every)):
                pairs = [pair for k, pair in enumerate(every) if chosen >> k & 1]
                if is_closed(net, pairs):
                    for one, other in pairs:
                        self.assertIsNotNone(closed_pairs(net, one, other))

    def test_no_room(self):
        for thing in things() + [3, 30]:
            refusal(self, BadRoom, closed_pairs, (3, []), thing, 0)
            refusal(self, BadRoom, closed_pairs, (3, []), 0, thing)
            refusal(self, BadRoom, closed_pairs, (3, []), thing, thing)
        refusal(self, BadRoom, closed_pairs, (0, []), 0, 0)

    def test_the_net_is_refused_ahead(self):
        for room in (7, -1, True, None, []):
            refused_at(self, BadNet, None, closed_pairs, (31, []), room, room)
            refused_at(self, BadNet, 0, closed_pairs, (2, [None]), 0, room)

    def test_what_is_told_is_the_askers_own(self):
        net = (3, [(0, 5, 1), (1, 5, 0)])
        told = closed_pairs(net, 0, 1)
        was = list(told)
        told.clear()
        self.assertEqual(closed_pairs(net, 0, 1), was)

    def test_what_is_handed_in_is_not_kept(self):
        net = (2, [(0, 5, 0)])
        self.assertIsNone(closed_pairs(net, 0, 1))
        net[1].append((1, 5, 0))
        self.borne_out(net, 0, 1)
        net[1].append((1, 6, 0))
        self.assertIsNone(closed_pairs(net, 0, 1))


if __name__ == "__main__":
    unittest.main()
