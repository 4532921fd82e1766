"""The examples of points 15, 25, 35, 46, 56, 66, 77, 87, 96, word by word."""

import unittest

from samefromhere.alike import alike_for, alike_pairs
from samefromhere.comparisons import least_weights, row_below, share_bound
from samefromhere.countrows import count_rows, is_count_row
from samefromhere.doors import marked_rows, share_row
from samefromhere.finals import final_net, is_final, sizes_with, twice
from samefromhere.groups import quotient, subgroups
from samefromhere.guesses import guess, settled_after
from samefromhere.joins import joined_lift, lone_place, strong_lift
from samefromhere.kinds import kinds, kinds_for_ever, ranks, rounds_needed
from samefromhere.leastnets import both_over
from samefromhere.liftcounts import count_joined, count_turns, count_unlike
from samefromhere.lifts import lift
from samefromhere.madenets import with_signs
from samefromhere.marking import fewest_marked, words_for
from samefromhere.netlists import kinds_of, rounds_of
from samefromhere.nets import Net
from samefromhere.partings import even_partings
from samefromhere.patterns import own_turns, pattern_counts, rounds_to_part
from samefromhere.ringaxes import ring_axes
from samefromhere.ringkinds import reading, ring_rounds
from samefromhere.rings import door_ring
from samefromhere.ringsenses import barred_by, count_barred, count_heads, ring_sense
from samefromhere.rowkinds import row_kinds
from samefromhere.shapes import is_joined, is_strong
from samefromhere.sheets import holds, parting_sheet, sheet_rounds
from samefromhere.shutnets import final_after
from samefromhere.turnnets import crowd_net, turn_net
from samefromhere.views import view
from samefromhere.wishes import barring, choices, first_choice, rounds_for
from samefromhere.written import written

R = Net(["a", "b", "a", "b"], [(i, (i + 1) % 4, "", "") for i in range(4)])
S = Net(["x", "y", "y"], [(0, 1, "", ""), (0, 2, "", "")])


class TestExamples(unittest.TestCase):
    def test_point_15(self):
        self.assertEqual(kinds_for_ever(R), [[0, 2], [1, 3]])
        self.assertEqual(rounds_needed(R), 0)
        self.assertEqual(view(R, 1, 2), (2, "b", (("", "", (1, "a", (("", "", (0, "b", ())),))),)))
        net = with_signs(R, ["a", "b", "b", "b"])
        self.assertEqual(kinds(net, 0), [[0], [1, 2, 3]])
        self.assertEqual(rounds_needed(net), 2)
        self.assertEqual(ranks(net), [0, 1, 2, 3])

    def test_point_25(self):
        a = Net(["a"] * 2, [(0, 1, "", ""), (1, 0, "", "")])
        b = Net(["a"] * 3, [(0, 1, "", ""), (1, 2, "", ""), (2, 0, "", "")])
        self.assertEqual(alike_pairs(a, b), [(0, 0), (0, 1), (0, 2), (1, 0), (1, 1), (1, 2)])
        both = both_over(a, b)
        self.assertEqual(len(both), 6)
        self.assertTrue(is_joined(both))
        self.assertEqual(sorted(road[0] for road in both.roads()), list(range(6)))
        self.assertEqual(sorted(road[1] for road in both.roads()), list(range(6)))
        a = with_signs(a, ["b", "a"])
        self.assertEqual(alike_for(a, 1, b, 0), 0)
        sheet = [("sign", "b"), ("in", "", "", 1, 0)]
        self.assertTrue(holds(a, 1, sheet))
        self.assertFalse(holds(b, 0, sheet))
        self.assertEqual(sheet_rounds(sheet), 1)
        self.assertEqual(sheet_rounds(parting_sheet(a, 1, b, 0)), 1)
        ring = Net(["a"] * 4, [(i, (i + 1) % 4, "", "") for i in range(4)])
        self.assertEqual(even_partings(ring), [[[0, 1, 2, 3]], [[0, 2], [1, 3]], [[0], [1], [2], [3]]])

    def test_point_35(self):
        base = Net(["s"], [(0, 0, "h", "h"), (0, 0, "x", "y"), (0, 0, "y", "x")])
        self.assertEqual([count_turns(base, 2, True), count_turns(base, 2, False)], [4, 2])
        self.assertEqual([count_joined(base, 2, True), count_joined(base, 2, False)], [3, 2])
        self.assertEqual([count_unlike(base, 2, True), count_unlike(base, 2, False)], [4, 2])
        self.assertIsNone(joined_lift(base, 3, False))
        base = Net(["a", "b"], [(0, 0, "", ""), (0, 1, "", ""), (1, 0, "", "")])
        self.assertTrue(is_strong(lift(base, [3, 1], strong_lift(base, [3, 1]))))
        self.assertIsNone(strong_lift(base, [1, 2]))
        self.assertEqual(lone_place(base, [1, 2]), 1)

    def test_point_46(self):
        self.assertEqual(kinds_of([R, S], 0), [[(0, 0), (0, 2)], [(0, 1), (0, 3)], [(1, 0)], [(1, 1), (1, 2)]])
        self.assertEqual(rounds_of([R, S]), 0)
        self.assertEqual(choices([R, S], *written([R, S], "head"), None), [])
        self.assertEqual(barring([R, S], *written([R, S], "head"), None), [0])
        self.assertEqual(choices([S], *written([S], "head"), None), [(1, 0)])
        self.assertEqual(first_choice([R, S], *written([R, S], ("colours", 2)), None), (0, 1, 0, 1))
        self.assertEqual(rounds_for([R, S], *written([R, S], ("colours", 2))), 0)
        self.assertEqual(fewest_marked(S, *written([S], "names"), None), [[1], [2]])
        self.assertEqual(words_for(S, *written([S], "names"), None), [0, 0, 1])

    def test_point_56(self):
        base = Net(["a", "b"], [(0, 1, "", 0), (0, 1, "", 1), (1, 0, "", "")])
        self.assertEqual(count_rows(base, 5), [(1, 1), (2, 1), (2, 2), (3, 2)])
        self.assertEqual(least_weights(base, (1, -1)), (0, 1))
        self.assertEqual(least_weights(base, (-1, 2)), (1, 0))
        self.assertIsNone(least_weights(base, (-1, 1)))
        row = row_below(base, (-1, 1))
        self.assertTrue(is_count_row(base, row) and row[1] < row[0])
        self.assertEqual(share_bound(base, (1, 0), (1, 1)), (2, 3))
        self.assertEqual(share_row(base, (1, 2)), (2, 1))
        self.assertIsNone(share_row(base, (1, 1)))
        self.assertEqual(marked_rows(base, 1, 1), [(1, 1), (2, 1)])

    def test_point_66(self):
        k = Net(["a", "a"], [(0, 1, "x", "x"), (1, 0, "x", "x")])
        self.assertEqual([is_final(view(k, place, rounds)) for place in (0, 1) for rounds in (1, 2)],
                         [False, True, False, True])
        self.assertEqual(final_net(view(k, 0, 2)), Net(["a"], [(0, 0, "x", "x")]))
        self.assertEqual(sizes_with(view(k, 0, 2)), [1, 2])
        self.assertEqual(twice(view(k, 0, 2)), (k, 0, 1))
        self.assertEqual(final_after(k), [2, 2])
        k = Net(["a", "a"], [(0, 1, "x", "y"), (1, 0, "y", "x")])
        self.assertEqual(final_net(view(k, 0, 2)), k)
        self.assertIsNone(twice(view(k, 0, 2)))
        self.assertEqual(settled_after(R), 3)
        self.assertIsNone(guess(view(R, 1, 2)))
        self.assertEqual(guess(view(R, 1, 3)), Net(["a", "b"], [(0, 1, "", ""), (1, 0, "", "")]))

    def test_point_77(self):
        signs = ["s"] * 4
        self.assertEqual(ring_axes(signs, [0, 0, 1, 1]), [3])
        self.assertEqual(kinds_for_ever(door_ring(signs, [0, 0, 1, 1])), [[0, 3], [1, 2]])
        self.assertEqual(barred_by(signs, [0, 0, 1, 1]), (0, 3))
        self.assertEqual(ring_axes(signs, [0, 1, 0, 1]), [1, 3])
        self.assertEqual(kinds_for_ever(door_ring(signs, [0, 1, 0, 1])), [[0, 1, 2, 3]])
        self.assertEqual(ring_axes(signs, [0, 0, 0, 1]), [])
        self.assertIn(ring_sense(signs, [0, 0, 0, 1]), ([0, 0, 0, 1], [1, 1, 1, 0]))
        self.assertEqual([count_barred(4, 1), count_heads(4, 1)], [6, 8])
        self.assertEqual(reading(["s", "t", "u"], [0, 1, 0], 0, 0, 2), [("s", 0), ("t", 1), ("u", 0)])
        self.assertEqual(ring_rounds(["a", "b", "b", "b"]), 2)

    def test_point_87(self):
        signs = ["a", "b"] * 3
        self.assertEqual(own_turns([6], signs), [(0,), (2,), (4,)])
        self.assertEqual(quotient([6], own_turns([6], signs))[0], [2])
        self.assertEqual(rounds_to_part([6], [(1,)], signs), 0)
        signs = ["a", "b", "b"] * 2
        self.assertEqual(own_turns([6], signs), [(0,), (3,)])
        self.assertEqual(rounds_to_part([6], [(1,)], signs), 1)
        self.assertEqual(pattern_counts([4], 2), {1: 2, 2: 2, 4: 12})
        self.assertEqual(len(subgroups([2, 2])), 5)
        signs = ["a", "b", "b", "b", "b"]
        self.assertEqual(kinds_for_ever(crowd_net([5], [(1,), (4,)], signs)), [[0], [1, 4], [2, 3]])
        self.assertEqual(len(kinds_for_ever(turn_net([5], [(1,), (4,)], signs))), 5)

    def test_point_96(self):
        row = [Net(["a"] * 3, [(0, 1, "", "")]), Net(["a"] * 3, [(1, 2, "", "")])]
        self.assertEqual(row_kinds(row, 1), [[0, 2], [1]])
