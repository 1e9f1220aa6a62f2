import unittest

from samesteps.errors import BadNet, BadSaying
from samesteps.sayings import deep, worked
from support import (any_net, any_saying, chain, depths_by_the_words, full_steps, leaves_as_was,
                     refusal, refused_at, so_by_the_words, things, things_but)

NETS = [any_net(seed) for seed in range(150)] + [(0, []), chain(30), (2, full_steps(2, 200))]
FORK = (4, [(0, 5, 1), (0, 5, 2), (1, 5, 2), (2, 6, 2)])


class TestWorked(unittest.TestCase):
    def told(self, net, rows, expected):
        self.assertEqual(leaves_as_was(self, worked, net, rows), expected)

    def last(self, net, rows):
        return leaves_as_was(self, worked, net, rows)[-1]

    def test_yes(self):
        self.told(FORK, [("yes",)], [[0, 1, 2, 3]])
        self.told(FORK, [("yes",), ("yes",)], [[0, 1, 2, 3], [0, 1, 2, 3]])
        self.told((30, []), [("yes",)], [list(range(30))])

    def test_not(self):
        self.told(FORK, [("yes",), ("not", 0), ("not", 1)], [[0, 1, 2, 3], [], [0, 1, 2, 3]])
        self.told(FORK, [("yes",), ("may", 5, 0), ("not", 1)], [[0, 1, 2, 3], [0, 1], [2, 3]])

    def test_and(self):
        ahead = [("yes",), ("may", 5, 0), ("may", 6, 0), ("may", 5, 2), ("not", 1)]
        self.assertEqual(self.last(FORK, ahead + [("and", (1, 3))]), [0, 1])
        self.assertEqual(self.last(FORK, ahead + [("and", (1, 2))]), [])
        self.assertEqual(self.last(FORK, ahead + [("and", (4, 2))]), [2])
        self.assertEqual(self.last(FORK, ahead + [("and", (0, 4))]), [2, 3])
        self.assertEqual(self.last(FORK, ahead + [("and", (0, 0, 4, 2))]), [2])

    def test_and_of_none_of_one_and_of_one_twice(self):
        self.told(FORK, [("and", ())], [[0, 1, 2, 3]])
        self.told(FORK, [("yes",), ("may", 6, 0), ("and", (1,))], [[0, 1, 2, 3], [2], [2]])
        self.told(FORK, [("yes",), ("may", 6, 0), ("and", (1, 1))], [[0, 1, 2, 3], [2], [2]])
        self.told(FORK, [("and", ()), ("and", (0, 0, 0))], [[0, 1, 2, 3]] * 2)

    def test_may(self):
        self.told(FORK, [("yes",), ("may", 6, 0), ("may", 5, 1), ("may", 5, 2)],
                  [[0, 1, 2, 3], [2], [0, 1], [0]])

    def test_must(self):
        self.told(FORK, [("yes",), ("may", 6, 0), ("must", 5, 1), ("must", 5, 2)],
                  [[0, 1, 2, 3], [2], [1, 2, 3], [0, 1, 2, 3]])
        self.told(FORK, [("yes",), ("not", 0), ("must", 5, 1)], [[0, 1, 2, 3], [], [2, 3]])

    def test_rooms_that_have_no_step_of_the_mark(self):
        for mark in (0, 7, 99):
            self.told(FORK, [("yes",), ("may", mark, 0), ("must", mark, 0)],
                      [[0, 1, 2, 3], [], [0, 1, 2, 3]])
            self.told(FORK, [("yes",), ("not", 0), ("may", mark, 1), ("must", mark, 1)],
                      [[0, 1, 2, 3], [], [], [0, 1, 2, 3]])

    def test_marks_0_and_99(self):
        net = (3, [(0, 0, 1), (1, 99, 2)])
        self.told(net, [("yes",), ("may", 0, 0), ("may", 99, 0), ("may", 0, 2)],
                  [[0, 1, 2], [0], [1], [0]])
        self.told(net, [("yes",), ("not", 0), ("must", 0, 1), ("must", 99, 1)],
                  [[0, 1, 2], [], [1, 2], [0, 2]])

    def test_the_step_leads_from_the_first_room_to_the_second(self):
        self.told((2, [(0, 5, 1)]), [("yes",), ("may", 5, 0), ("may", 5, 1)], [[0, 1], [0], []])
        self.told((2, [(1, 5, 0)]), [("yes",), ("may", 5, 0), ("may", 5, 1)], [[0, 1], [1], []])

    def test_rows_that_nothing_builds_on_are_told_too(self):
        self.told(FORK, [("yes",), ("may", 6, 0), ("yes",)], [[0, 1, 2, 3], [2], [0, 1, 2, 3]])

    def test_a_net_without_rooms(self):
        for seed in range(5):
            self.told((0, []), any_saying(seed, 40), [[] for _ in range(40)])

    def test_two_thousand_rows(self):
        net = chain(30)
        self.told(net, [("yes",)] * 2000, [list(range(30))] * 2000)
        rows = [("yes",)] + [("may", 0, at) for at in range(1999)]
        self.told(net, rows, [list(range(max(0, 30 - at))) for at in range(2000)])
        rows = [("and", tuple(range(at))) for at in range(1999)] + [("not", 1998)]
        self.told(net, rows, [list(range(30))] * 1999 + [[]])

    def test_many_sayings(self):
        for seed, net in enumerate(NETS):
            rows = any_saying(seed, 60)
            told = leaves_as_was(self, worked, net, rows)
            self.assertEqual(told, [sorted(so) for so in so_by_the_words(net, rows)])
            self.assertIs(type(told), list)
            for so in told:
                self.assertIs(type(so), list)
                self.assertEqual({type(room) for room in so} - {int}, set())

    def test_what_is_told_is_the_askers_own(self):
        rows = [("yes",), ("and", (0,)), ("and", (0, 1)), ("not", 0), ("not", 3)]
        told = worked(FORK, rows)
        self.assertEqual(len({id(so) for so in told}), 5)
        for so in told:
            so.append("mine")
        told.append("mine")
        self.told(FORK, rows, [[0, 1, 2, 3]] * 3 + [[], [0, 1, 2, 3]])

    def test_what_is_handed_in_is_not_kept(self):
        net, rows = (2, [(0, 5, 1)]), [("yes",), ("may", 5, 0)]
        self.told(net, rows, [[0, 1], [0]])
        net[1].append((1, 5, 1))
        self.told(net, rows, [[0, 1], [0, 1]])
        rows[1] = ("may", 6, 0)
        self.told(net, rows, [[0, 1], []])
        rows.pop()
        self.told(net, rows, [[0, 1]])


class TestDeep(unittest.TestCase):
    def told(self, rows, expected):
        told = leaves_as_was(self, deep, rows)
        self.assertEqual(told, expected)
        self.assertIs(type(told), int)

    def test_yes_and_and_of_none(self):
        self.told([("yes",)], 0)
        self.told([("and", ())], 0)
        self.told([("yes",), ("may", 5, 0), ("yes",)], 0)
        self.told([("yes",), ("may", 5, 0), ("and", ())], 0)

    def test_not(self):
        self.told([("yes",), ("not", 0)], 0)
        self.told([("yes",), ("may", 5, 0), ("not", 1)], 1)
        self.told([("yes",), ("may", 5, 0), ("not", 0)], 0)

    def test_may_and_must(self):
        for kind in ("may", "must"):
            for mark in (0, 5, 99):
                self.told([("yes",), (kind, mark, 0)], 1)
                self.told([("yes",), (kind, mark, 0), ("not", 1), (kind, mark, 2)], 2)
        self.told([("yes",), ("may", 0, 0), ("must", 0, 1), ("may", 0, 2)], 3)
        self.told([("yes",), ("may", 0, 0), ("must", 0, 0)], 1)

    def test_and(self):
        ahead = [("yes",), ("may", 0, 0), ("must", 0, 1), ("may", 0, 2)]
        for numbers, depth in (((0,), 0), ((0, 0), 0), ((1,), 1), ((0, 2), 2), ((2, 1, 0), 2),
                               ((1, 3, 2), 3), ((3, 3), 3), ((3, 0), 3), ((1, 1), 1)):
            self.told(ahead + [("and", numbers)], depth)
            self.told(ahead + [("and", numbers), ("may", 1, 4)], depth + 1)

    def test_the_saying_is_as_deep_as_its_last_row(self):
        rows = [("yes",), ("may", 0, 0), ("may", 0, 1), ("not", 0), ("must", 0, 3)]
        for end, depth in enumerate((0, 1, 2, 0, 1)):
            self.told(rows[:end + 1], depth)

    def test_two_thousand_rows(self):
        for kind in ("may", "must"):
            self.told([("yes",)] + [(kind, 0, at) for at in range(1999)], 1999)
        self.told([("yes",)] + [("not", at) for at in range(1999)], 0)
        self.told([("yes",)] * 2000, 0)
        self.told([("and", tuple(range(at))) for at in range(2000)], 0)

    def test_many_sayings(self):
        for seed in range(200):
            rows = any_saying(seed, 60)
            for end, depth in enumerate(depths_by_the_words(rows)):
                self.assertEqual(deep(rows[:end + 1]), depth)


class TestBadSayings(unittest.TestCase):
    def refused(self, rows, at):
        for net in ((0, []), FORK, (30, [])):
            refused_at(self, BadSaying, at, worked, net, rows)
        refused_at(self, BadSaying, at, deep, rows)

    def row_refused(self, row):
        """It is no row behind two that are."""
        self.refused([("yes",), ("not", 0), row], 2)
        self.refused([("yes",), ("not", 0), row, ("yes",)], 2)

    def taken(self, rows):
        leaves_as_was(self, deep, rows)
        leaves_as_was(self, worked, FORK, rows)

    def test_no_list(self):
        for thing in things_but(list):
            self.refused(thing, None)
        for rows in ((("yes",),), ("yes",), {("yes",)}, {("yes",): 0}, iter([("yes",)]), "yes"):
            self.refused(rows, None)

    def test_no_rows_or_too_many(self):
        self.refused([], None)
        self.refused([("yes",)] * 2001, None)
        self.refused([None] * 2001, None)
        self.taken([("yes",)] * 2000)
        self.refused([("yes",)] * 1999 + [None], 1999)

    def test_no_tuple(self):
        for thing in things():
            self.refused([thing], 0)
            self.row_refused(thing)
        for row in (["yes"], ["not", 0], "yes", {"yes"}, {"yes": 0}, (), ((),), (("yes",),)):
            self.refused([row], 0)
            self.row_refused(row)

    def test_an_unknown_or_wrong_first_part(self):
        for thing in things():
            self.refused([(thing,)], 0)
            self.row_refused((thing,))
            self.row_refused((thing, 0))
            self.row_refused((thing, 5, 0))
            self.row_refused((thing, ()))
        for kind in ("Yes", "no", "or", "", "yes ", b"yes", "MAY", 0, ("yes",), ["yes"], None):
            self.refused([(kind,)], 0)
            for parts in ((), (0,), (5, 0), ((0,),)):
                self.row_refused((kind,) + parts)

    def test_too_few_or_too_many_parts(self):
        for row in (("yes", 0), ("yes", None), ("yes", "yes"), ("yes", ()),
                    ("not",), ("not", 0, 0), ("not", 0, None),
                    ("and",), ("and", (0,), (1,)), ("and", (), 0), ("and", 0, 1),
                    ("may",), ("may", 0), ("may", 5, 0, 0), ("may", 5, 0, None),
                    ("must",), ("must", 0), ("must", 5, 0, 0), ("must", 5, 0, ())):
            self.row_refused(row)
        self.refused([("and",)], 0)
        self.refused([("may", 5)], 0)

    def test_numbers_of_rows_that_do_not_stand_ahead(self):
        for number in things() + [2, 3, 2000, True, False, "0", (0,), [0]]:
            self.row_refused(("not", number))
            self.row_refused(("and", (number,)))
            self.row_refused(("and", (0, number)))
            self.row_refused(("and", (number, 1)))
            self.row_refused(("may", 5, number))
            self.row_refused(("must", 5, number))
        for row in (("not", 0), ("and", (0,)), ("may", 5, 0), ("must", 5, 0)):
            self.refused([row], 0)
            self.refused([row, ("yes",)], 0)

    def test_the_number_of_the_row_just_ahead(self):
        for row in (("not", 1), ("and", (1,)), ("and", (1, 0, 1)), ("may", 5, 1), ("must", 5, 1)):
            self.taken([("yes",), ("yes",), row])
            self.refused([("yes",), row], 1)

    def test_marks_that_are_none(self):
        for kind in ("may", "must"):
            for mark in things() + [100, 101, 1000, True, False, -1, "5", (5,), [5]]:
                self.row_refused((kind, mark, 0))
            for mark in (0, 1, 99):
                self.taken([("yes",), (kind, mark, 0)])

    def test_and_with_no_tuple(self):
        for thing in things_but(tuple):
            self.row_refused(("and", thing))
        for thing in (0, 1, [0], [], [0, 1], {0}, {0: 1}, "0", range(2), None):
            self.row_refused(("and", thing))
        self.refused([("and", [])], 0)

    def test_and_with_a_tuple_in_its_tuple(self):
        self.row_refused(("and", ((0,),)))
        self.row_refused(("and", ((),)))

    def test_of_two_rows_at_fault_the_first_is_told(self):
        self.refused([("yes",), None, ("not", 9)], 1)
        self.refused([("yes",), ("not", 9), None], 1)
        self.refused([("may", 5, 1), ("not", 1)], 0)
        self.refused([("yes",), ("may", 100, 0), ("may", 5, 2)], 1)
        self.refused([("yes",), ("not", 2), ("yes", 0)], 1)

    def test_a_refused_saying_stays_as_it_was(self):
        rows = [("yes",), ["not", 0], None]
        self.refused(rows, 1)
        self.assertEqual(rows, [("yes",), ["not", 0], None])

    def test_the_net_is_refused_ahead(self):
        for rows in (None, [], [None], [("not", 0)], [("yes",)] * 2001):
            refused_at(self, BadNet, None, worked, (31, []), rows)
            refused_at(self, BadNet, 1, worked, (2, [(0, 0, 0), None]), rows)
            refusal(self, BadNet, worked, None, rows)


if __name__ == "__main__":
    unittest.main()
