"""The examples of points 15, 25, 35, 46, word by word."""

import unittest

from samefromhere.alike import alike_for, alike_pairs
from samefromhere.joins import joined_lift, lone_place, strong_lift
from samefromhere.kinds import kinds, kinds_for_ever, ranks, rounds_needed
from samefromhere.leastnets import both_over
from samefromhere.liftcounts import count_joined, count_turns, count_unlike
from samefromhere.lifts import lift
from samefromhere.madenets import with_signs
from samefromhere.netlists import kinds_of, rounds_of
from samefromhere.nets import Net
from samefromhere.partings import even_partings
from samefromhere.shapes import is_joined, is_strong
from samefromhere.sheets import holds, parting_sheet, sheet_rounds
from samefromhere.views import view
from samefromhere.wishes import barring, choices, first_choice, rounds_for
from samefromhere.written import written

R = Net(["a", "b", "a", "b"], [(i, (i + 1) % 4, "", "") for i in range(4)])
S = Net(["x", "y", "y"], [(0, 1, "", ""), (0, 2, "", "")])


class TestExamples(unittest.TestCase):
    def test_point_15(self):
        self.assertEqual(kinds_for_ever(R), [[0, 2], [1, 3]])
        self.assertEqual(rounds_needed(R), 0)
        self.assertEqual(view(R, 1, 2), (2, "b", (("", "", (1, "a", (("", "", (0, "b", ())),))),)))
        net = with_signs(R, ["a", "b", "b", "b"])
        self.assertEqual(kinds(net, 0), [[0], [1, 2, 3]])
        self.assertEqual(rounds_needed(net), 2)
        self.assertEqual(ranks(net), [0, 1, 2, 3])

    def test_point_25(self):
        a = Net(["a"] * 2, [(0, 1, "", ""), (1, 0, "", "")])
        b = Net(["a"] * 3, [(0, 1, "", ""), (1, 2, "", ""), (2, 0, "", "")])
        self.assertEqual(alike_pairs(a, b), [(0, 0), (0, 1), (0, 2), (1, 0), (1, 1), (1, 2)])
        both = both_over(a, b)
        self.assertEqual(len(both), 6)
        self.assertTrue(is_joined(both))
        self.assertEqual(sorted(road[0] for road in both.roads()), list(range(6)))
        self.assertEqual(sorted(road[1] for road in both.roads()), list(range(6)))
        a = with_signs(a, ["b", "a"])
        self.assertEqual(alike_for(a, 1, b, 0), 0)
        sheet = [("sign", "b"), ("in", "", "", 1, 0)]
        self.assertTrue(holds(a, 1, sheet))
        self.assertFalse(holds(b, 0, sheet))
        self.assertEqual(sheet_rounds(sheet), 1)
        self.assertEqual(sheet_rounds(parting_sheet(a, 1, b, 0)), 1)
        ring = Net(["a"] * 4, [(i, (i + 1) % 4, "", "") for i in range(4)])
        self.assertEqual(even_partings(ring), [[[0, 1, 2, 3]], [[0, 2], [1, 3]], [[0], [1], [2], [3]]])

    def test_point_35(self):
        base = Net(["s"], [(0, 0, "h", "h"), (0, 0, "x", "y"), (0, 0, "y", "x")])
        self.assertEqual([count_turns(base, 2, True), count_turns(base, 2, False)], [4, 2])
        self.assertEqual([count_joined(base, 2, True), count_joined(base, 2, False)], [3, 2])
        self.assertEqual([count_unlike(base, 2, True), count_unlike(base, 2, False)], [4, 2])
        self.assertIsNone(joined_lift(base, 3, False))
        base = Net(["a", "b"], [(0, 0, "", ""), (0, 1, "", ""), (1, 0, "", "")])
        self.assertTrue(is_strong(lift(base, [3, 1], strong_lift(base, [3, 1]))))
        self.assertIsNone(strong_lift(base, [1, 2]))
        self.assertEqual(lone_place(base, [1, 2]), 1)

    def test_point_46(self):
        self.assertEqual(kinds_of([R, S], 0), [[(0, 0), (0, 2)], [(0, 1), (0, 3)], [(1, 0)], [(1, 1), (1, 2)]])
        self.assertEqual(rounds_of([R, S]), 0)
        self.assertEqual(choices([R, S], *written([R, S], "head"), None), [])
        self.assertEqual(barring([R, S], *written([R, S], "head"), None), [0])
        self.assertEqual(choices([S], *written([S], "head"), None), [(1, 0)])
        self.assertEqual(first_choice([R, S], *written([R, S], ("colours", 2)), None), (0, 1, 0, 1))
        self.assertEqual(rounds_for([R, S], *written([R, S], ("colours", 2))), 0)
