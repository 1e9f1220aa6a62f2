"""BadNet, as all functions that take a net tell it."""

import unittest

from samesteps.errors import BadNet
from samesteps.least import least
from samesteps.nets import beside
from samesteps.pairs import closed_pairs, is_closed
from samesteps.rounds import alike, parted_at, rounds
from samesteps.sayings import worked
from samesteps.telling import saying_for
from support import full_steps, leaves_as_was, refused_at, things, things_but

GOOD = (2, [(0, 5, 1)])

CALLS = {
    "beside, first": lambda net: beside(net, GOOD),
    "beside, second": lambda net: beside(GOOD, net),
    "beside, both": lambda net: beside(net, net),
    "rounds": rounds,
    "parted_at": lambda net: parted_at(net, 0, 1),
    "parted_at of no rooms": lambda net: parted_at(net, "x", None),
    "alike": lambda net: alike(net, 0, 1),
    "alike of no rooms": lambda net: alike(net, -1, True),
    "is_closed": lambda net: is_closed(net, [(0, 0)]),
    "is_closed of no pairs": lambda net: is_closed(net, None),
    "is_closed of no rooms": lambda net: is_closed(net, [(0, -1), None]),
    "closed_pairs": lambda net: closed_pairs(net, 0, 1),
    "closed_pairs of no rooms": lambda net: closed_pairs(net, None, 30),
    "worked": lambda net: worked(net, [("yes",)]),
    "worked of no saying": lambda net: worked(net, None),
    "worked of no row": lambda net: worked(net, [("yes",), None]),
    "saying_for": lambda net: saying_for(net, 0, 1),
    "saying_for of no rooms": lambda net: saying_for(net, [], False),
    "least": least,
}


class TestBadNets(unittest.TestCase):
    def refused(self, net, at):
        for name, call in CALLS.items():
            with self.subTest(call=name, at=at):
                refused_at(self, BadNet, at, call, net)

    def taken(self, net):
        leaves_as_was(self, rounds, net)
        leaves_as_was(self, beside, net, (0, []))
        leaves_as_was(self, beside, (0, []), net)
        leaves_as_was(self, least, net)
        self.assertIs(leaves_as_was(self, is_closed, net, []), True)
        self.assertEqual(leaves_as_was(self, worked, net, [("yes",)]), [list(range(net[0]))])
        if net[0] > 0:
            self.assertIs(leaves_as_was(self, alike, net, 0, 0), True)
            self.assertIsNone(leaves_as_was(self, parted_at, net, 0, 0))
            self.assertIn((0, 0), leaves_as_was(self, closed_pairs, net, 0, 0))
            self.assertIsNone(leaves_as_was(self, saying_for, net, 0, 0))

    def test_no_tuple_of_two(self):
        for thing in things():
            self.refused(thing, None)
        for net in ((2,), (2, [], []), (2, [], None), [2, []], {2: []}, "2[", ((2, []),)):
            self.refused(net, None)

    def test_no_such_many(self):
        for many in things():
            self.refused((many, []), None)
        for many in (-1, 31, 32, 1000):
            self.refused((many, []), None)

    def test_no_list_of_steps(self):
        for steps in things_but(list):
            self.refused((2, steps), None)
        for steps in (((0, 5, 1),), {(0, 5, 1)}, {(0, 5, 1): 0}, iter([(0, 5, 1)])):
            self.refused((2, steps), None)

    def test_too_many_steps(self):
        self.refused((2, full_steps(2, 201)), None)
        self.refused((2, [None] * 201), None)
        self.refused((2, [(0, 0, 0)] * 201), None)

    def test_the_most_and_the_least_that_a_net_may_have(self):
        self.taken((0, []))
        self.taken((1, []))
        self.taken((30, []))
        self.taken((2, full_steps(2, 200)))
        self.taken((30, full_steps(30, 200)))
        self.taken((30, [(29, 99, 0), (0, 0, 29), (29, 0, 29), (0, 99, 0)]))

    def test_no_step(self):
        for thing in things():
            self.refused((2, [thing]), 0)
            self.refused((2, [(0, 5, 1), (1, 5, 1), thing]), 2)
        for step in ((0, 1), (0, 1, 0, 1), [0, 1, 0], "010", {0: 1, 1: 1, 2: 0}, ((0, 1, 0),)):
            self.refused((2, [(0, 5, 1), step, (1, 5, 1)]), 1)

    def test_what_stands_in_a_step(self):
        for thing in things():
            self.refused((2, [(thing, 5, 1)]), 0)
            self.refused((2, [(1, 5, 1), (0, thing, 1)]), 1)
            self.refused((2, [(1, 5, 1), (0, 5, 1), (0, 5, thing)]), 2)

    def test_rooms_and_marks_that_there_are_not(self):
        for step in ((2, 0, 1), (1, 0, 2), (-1, 0, 1), (1, 0, -1), (30, 0, 1), (0, 0, 30),
                     (0, 100, 1), (0, -1, 1), (0, 1000, 0)):
            self.refused((2, [(0, 5, 1), step]), 1)
        self.refused((0, [(0, 0, 0)]), 0)
        self.refused((1, [(0, 0, 0), (0, 0, 1)]), 1)
        self.refused((30, [(30, 0, 0)]), 0)

    def test_true_and_false_are_no_numbers(self):
        self.refused((True, []), None)
        self.refused((False, []), None)
        for truth in (True, False):
            self.refused((2, [(truth, 1, 0)]), 0)
            self.refused((2, [(0, truth, 0)]), 0)
            self.refused((2, [(0, 1, truth)]), 0)
        self.refused((2, [(0, 1, 1), (0, True, 1)]), 1)

    def test_a_step_that_stands_there_twice(self):
        self.refused((2, [(0, 5, 1), (0, 5, 1)]), 1)
        self.refused((2, [(0, 5, 1), (1, 5, 0), (1, 5, 1), (0, 5, 1)]), 3)
        self.refused((2, [(0, 5, 1), (1, 5, 0), (1, 5, 0), (0, 5, 1)]), 2)
        self.refused((2, [(0, 5, 1), (0, 5, 1), (0, 5, 1)]), 1)
        self.refused((2, full_steps(2, 199) + [(0, 0, 0)]), 199)

    def test_steps_that_are_unlike_in_one_thing_alone(self):
        self.taken((2, [(0, 5, 1), (1, 5, 1), (0, 6, 1), (0, 5, 0), (1, 5, 0)]))

    def test_of_two_steps_at_fault_the_first_is_told(self):
        self.refused((2, [(0, 5, 1), None, (0, 5, 1)]), 1)
        self.refused((2, [(0, 5, 1), (0, 5, 1), None]), 1)
        self.refused((2, [(0, 5, 2), (0, 5, 1), (0, 5, 1)]), 0)
        self.refused((2, [(0, 5, 1), (0, 100, 1), (2, 0, 0)]), 1)
        self.refused((2, [(0, 5, 1), [], {}]), 1)

    def test_the_net_itself_is_at_fault_ahead_of_its_steps(self):
        self.refused((31, [None]), None)
        self.refused((2, [None], 0), None)
        self.refused((True, [(0, 5, 1), (0, 5, 1)]), None)

    def test_a_refused_net_stays_as_it_was(self):
        steps = [(0, 5, 1), (0, 5, 1), [7]]
        for call in CALLS.values():
            refused_at(self, BadNet, 1, call, (2, steps))
        self.assertEqual(steps, [(0, 5, 1), (0, 5, 1), [7]])


if __name__ == "__main__":
    unittest.main()
