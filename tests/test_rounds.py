import unittest

from samesteps import rounds as rounds_file
from samesteps.errors import BadNet, BadRoom
from samesteps.nets import beside
from samesteps.rounds import alike, parted_at, rounds
from support import any_net, chain, full_steps, leaves_as_was, refusal, refused_at, things

NETS = [any_net(seed) for seed in range(250)] + [chain(30), (30, []), (2, full_steps(2, 200))]


def reached(net, parts, room, mark):
    """The parts of a round to which the steps of that mark lead from the room."""
    return {parts[end] for start, by, end in net[1] if (start, by) == (room, mark)}


def still_together(net, parts, a, b):
    """Whether the round after this one has both rooms in one part, told word by word."""
    return parts[a] == parts[b] and all(
        reached(net, parts, a, mark) == reached(net, parts, b, mark) for mark in range(100))


def numbered(many, together):
    """A number for each room, parts by their least rooms, rising, from 0 on."""
    leasts = [min(b for b in range(many) if together(a, b)) for a in range(many)]
    return [sorted(set(leasts)).index(least) for least in leasts]


def closed_alike(net):
    """The pairs of the largest closed list: those from which nothing can be told apart."""
    many, steps = net
    pairs = {(a, b) for a in range(many) for b in range(many)}

    def answered(a, b):
        return all(any(s == b and n == m and (x, y) in pairs for s, n, y in steps)
                   for r, m, x in steps if r == a)

    while True:
        kept = {(a, b) for a, b in pairs if answered(a, b) and answered(b, a)}
        if kept == pairs:
            return pairs
        pairs = kept


class TestRounds(unittest.TestCase):
    def told(self, net, expected):
        self.assertEqual(leaves_as_was(self, rounds, net), expected)

    def test_the_functions_are_defined_in_their_file(self):
        for name in ("rounds", "parted_at", "alike"):
            self.assertEqual(getattr(rounds_file, name).__module__, "samesteps.rounds")

    def test_a_net_without_rooms(self):
        self.told((0, []), [[]])

    def test_nets_without_steps(self):
        self.told((1, []), [[0]])
        self.told((3, []), [[0, 0, 0]])
        self.told((30, []), [[0] * 30])

    def test_round_0_is_the_last_one_where_none_parts(self):
        self.told((1, [(0, 4, 0)]), [[0]])
        self.told((3, [(0, 4, 1), (1, 4, 2), (2, 4, 0)]), [[0, 0, 0]])
        self.told((2, [(0, 4, 1), (0, 5, 0), (1, 4, 1), (1, 5, 0), (1, 5, 1)]), [[0, 0]])

    def test_one_round_that_parts(self):
        self.told((2, [(0, 0, 1)]), [[0, 0], [0, 1]])
        self.told((3, [(0, 1, 2), (1, 2, 2)]), [[0, 0, 0], [0, 1, 2]])

    def test_the_last_round_told_is_no_repeat(self):
        self.told((3, [(0, 0, 1), (1, 0, 2)]), [[0, 0, 0], [0, 0, 1], [0, 1, 2]])
        self.told((4, [(0, 0, 1), (1, 0, 2), (3, 0, 2)]),
                  [[0, 0, 0, 0], [0, 0, 1, 0], [0, 1, 2, 1]])

    def test_many_rounds(self):
        expected = [[0] * (30 - k) + list(range(1, k + 1)) for k in range(30)]
        self.told(chain(30), expected)

    def test_many_rounds_from_the_other_end(self):
        backward = (5, [(room, 0, room - 1) for room in range(1, 5)])
        self.told(backward, [[0, 0, 0, 0, 0], [0, 1, 1, 1, 1], [0, 1, 2, 2, 2],
                             [0, 1, 2, 3, 3], [0, 1, 2, 3, 4]])

    def test_parts_are_numbered_by_their_least_rooms(self):
        self.told((4, [(1, 0, 1), (3, 0, 3)]), [[0, 0, 0, 0], [0, 1, 0, 1]])
        self.told((4, [(0, 9, 0), (1, 3, 1), (2, 9, 2), (3, 1, 3)]), [[0, 0, 0, 0], [0, 1, 0, 2]])

    def test_the_numbers_of_a_round_can_change_in_the_next_one(self):
        net = (4, [(0, 0, 1), (1, 0, 2), (1, 0, 3), (2, 0, 2)])
        self.told(net, [[0, 0, 0, 0], [0, 0, 0, 1], [0, 1, 0, 2], [0, 1, 2, 3]])

    def test_marks_tell_apart(self):
        self.told((2, [(0, 0, 0), (1, 99, 1)]), [[0, 0], [0, 1]])
        self.told((2, [(0, 0, 0), (0, 99, 0), (1, 99, 1)]), [[0, 0], [0, 1]])
        self.told((2, [(0, 0, 1), (0, 99, 0), (1, 99, 1), (1, 0, 1)]), [[0, 0]])

    def test_no_step_of_a_mark_is_unlike_some_step_of_it(self):
        self.told((3, [(0, 0, 2), (1, 0, 2), (1, 1, 2)]), [[0, 0, 0], [0, 1, 2]])

    def test_several_steps_of_one_mark_to_the_same_part_count_as_one(self):
        self.told((4, [(0, 5, 2), (0, 5, 3), (1, 5, 2)]), [[0, 0, 0, 0], [0, 0, 1, 1]])
        self.told((4, [(0, 5, 2), (1, 5, 3)]), [[0, 0, 0, 0], [0, 0, 1, 1]])

    def test_several_steps_of_one_mark_to_different_parts(self):
        stop_and_loop = [(3, 1, 3)]
        self.told((4, stop_and_loop + [(0, 5, 2), (0, 5, 3), (1, 5, 2)]),
                  [[0, 0, 0, 0], [0, 0, 1, 2], [0, 1, 2, 3]])
        self.told((4, stop_and_loop + [(0, 5, 2), (0, 5, 3), (1, 5, 3), (1, 5, 2)]),
                  [[0, 0, 0, 0], [0, 0, 1, 2]])

    def test_parts_are_reached_mark_by_mark(self):
        swapped = [(2, 9, 2), (0, 1, 2), (0, 2, 3), (1, 2, 2), (1, 1, 3)]
        self.told((4, swapped), [[0, 0, 0, 0], [0, 0, 1, 2], [0, 1, 2, 3]])

    def test_steps_to_the_room_itself(self):
        self.told((3, [(0, 7, 0), (1, 7, 2), (2, 7, 1)]), [[0, 0, 0]])
        self.told((3, [(0, 7, 0), (1, 7, 2)]), [[0, 0, 0], [0, 0, 1], [0, 1, 2]])

    def test_the_order_of_the_steps_does_not_matter(self):
        for many, steps in NETS:
            self.assertEqual(rounds((many, steps[::-1])), rounds((many, steps)))
            self.assertEqual(rounds((many, sorted(steps))), rounds((many, steps)))

    def test_each_round_parts_as_the_words_say(self):
        for net in NETS:
            told = leaves_as_was(self, rounds, net)
            self.assertEqual(told[0], [0] * net[0])
            for ahead, parts in zip(told, told[1:] + told[-1:]):
                self.assertEqual(parts, numbered(
                    net[0], lambda a, b: still_together(net, ahead, a, b)))

    def test_each_round_told_parts_more_than_the_one_ahead(self):
        for net in NETS:
            counts = [len(set(parts)) for parts in rounds(net)]
            self.assertEqual(counts, sorted(set(counts)))

    def test_what_is_told_is_a_list_of_lists_of_numbers(self):
        for net in NETS:
            told = rounds(net)
            self.assertIs(type(told), list)
            for parts in told:
                self.assertIs(type(parts), list)
                self.assertEqual(len(parts), net[0])
                self.assertEqual({type(part) for part in parts} - {int}, set())

    def test_what_is_told_is_the_askers_own(self):
        for net in (chain(4), (0, []), (2, [])):
            told = rounds(net)
            was = [list(parts) for parts in told]
            for parts in told:
                parts.append("mine")
            told.append("mine")
            self.assertEqual(rounds(net), was)

    def test_the_rounds_told_are_lists_of_their_own(self):
        told = rounds(chain(5))
        self.assertEqual(len({id(parts) for parts in told}), 5)

    def test_what_is_handed_in_is_not_kept(self):
        net = (2, [(0, 0, 0)])
        self.told(net, [[0, 0], [0, 1]])
        net[1].append((1, 0, 1))
        self.told(net, [[0, 0]])
        self.assertIs(alike(net, 0, 1), True)
        net[1].clear()
        net[1].append((1, 3, 1))
        self.assertEqual(parted_at(net, 0, 1), 1)
        self.told(net, [[0, 0], [0, 1]])


class TestTwoRooms(unittest.TestCase):
    def test_a_room_and_itself(self):
        for many, steps in NETS:
            for room in range(many):
                self.assertIsNone(parted_at((many, steps), room, room))
                self.assertIs(alike((many, steps), room, room), True)

    def test_alike_rooms(self):
        net = (4, [(0, 1, 1), (1, 1, 0), (2, 1, 2)])
        for one in range(3):
            for other in range(3):
                self.assertIsNone(leaves_as_was(self, parted_at, net, one, other))
                self.assertIs(leaves_as_was(self, alike, net, one, other), True)

    def test_rooms_parted_early_and_late(self):
        net = chain(30)
        for one in range(30):
            for other in range(30):
                number = None if one == other else 30 - max(one, other)
                self.assertEqual(leaves_as_was(self, parted_at, net, one, other), number)
                self.assertIs(leaves_as_was(self, alike, net, one, other), one == other)

    def test_agreement_with_the_rounds(self):
        for net in NETS:
            told = rounds(net)
            for one in range(net[0]):
                for other in range(net[0]):
                    apart = [k for k, parts in enumerate(told) if parts[one] != parts[other]]
                    number = apart[0] if apart else None
                    answer = parted_at(net, one, other)
                    self.assertEqual(answer, number)
                    self.assertIs(type(answer), type(number))
                    self.assertIs(alike(net, one, other), not apart)

    def test_alike_ones_are_those_that_a_closed_list_pairs(self):
        for net in NETS[:120]:
            pairs = closed_alike(net)
            for one in range(net[0]):
                for other in range(net[0]):
                    self.assertIs(alike(net, one, other), (one, other) in pairs)

    def test_rooms_of_nets_laid_beside_one_another(self):
        net = beside(chain(3), (2, [(0, 0, 1)]))
        self.assertEqual([[alike(net, a, b) for b in (3, 4)] for a in range(3)],
                         [[False, False], [True, False], [False, True]])

    def test_no_room(self):
        net = (3, [(0, 0, 1)])
        odd = things() + [3, 4, 29, 30, True, False]
        for call in (parted_at, alike):
            for thing in odd:
                refusal(self, BadRoom, call, net, thing, 0)
                refusal(self, BadRoom, call, net, 0, thing)
                refusal(self, BadRoom, call, net, thing, thing)
                refusal(self, BadRoom, call, net, thing, None)
        self.assertEqual(net, (3, [(0, 0, 1)]))

    def test_the_last_room_and_the_first_one_beyond(self):
        for call, told in ((parted_at, None), (alike, True)):
            self.assertIs(call((30, []), 0, 29), told)
            self.assertIs(call((30, []), 29, 0), told)
            refusal(self, BadRoom, call, (30, []), 30, 0)
            refusal(self, BadRoom, call, (30, []), 0, 30)
            refusal(self, BadRoom, call, (0, []), 0, 0)
            refusal(self, BadRoom, call, (1, []), 0, 1)

    def test_no_room_is_refused_behind_no_net(self):
        for call in (parted_at, alike):
            for room in (7, -1, True, None, []):
                refused_at(self, BadNet, None, call, (31, []), room, room)
                refused_at(self, BadNet, 1, call, (2, [(0, 0, 0), (0, 0, 0)]), room, 0)
                refused_at(self, BadNet, 0, call, (2, [None]), 0, room)


if __name__ == "__main__":
    unittest.main()
