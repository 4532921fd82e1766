"""The examples of points 15, 25, 35, 46, 56, 66, 77, 87, 96, 106, 116, 126, 136, 144, word by word."""

import unittest

from samefromhere.alike import alike_for, alike_pairs
from samefromhere.coins import best_worth
from samefromhere.comparisons import least_weights, row_below, share_bound
from samefromhere.countrows import count_rows, is_count_row
from samefromhere.courses import keeping, must_part, parting_course
from samefromhere.doors import marked_rows, share_row
from samefromhere.errors import WouldChange
from samefromhere.eventruns import quiet_run
from samefromhere.finals import final_net, is_final, sizes_with, twice
from samefromhere.finders import fewest_moves
from samefromhere.gates import gate_delays, tellings
from samefromhere.groups import quotient, subgroups
from samefromhere.guesses import guess, settled_after
from samefromhere.houses import House
from samefromhere.housetexts import write_house
from samefromhere.joins import joined_lift, lone_place, strong_lift
from samefromhere.kinds import kinds, kinds_for_ever, ranks, rounds_needed
from samefromhere.leastnets import both_over
from samefromhere.leastpieces import least_piece
from samefromhere.liftcounts import count_joined, count_turns, count_unlike
from samefromhere.lifts import lift
from samefromhere.madenets import with_signs
from samefromhere.marking import fewest_marked, words_for
from samefromhere.meetings import meeting_plan, two_walk
from samefromhere.netlists import kinds_of, rounds_of
from samefromhere.nets import Net
from samefromhere.orders import order_fault, quiet_answers
from samefromhere.partings import even_partings
from samefromhere.patterns import own_turns, pattern_counts, rounds_to_part
from samefromhere.pieces import Piece
from samefromhere.piecetables import pair_table, piece_parting
from samefromhere.ringaxes import ring_axes
from samefromhere.ringkinds import reading, ring_rounds
from samefromhere.rings import door_ring
from samefromhere.ringsenses import barred_by, count_barred, count_heads, ring_sense
from samefromhere.rowkinds import row_kinds
from samefromhere.shapes import is_joined, is_strong
from samefromhere.sheets import holds, parting_sheet, sheet_rounds
from samefromhere.shutnets import final_after
from samefromhere.throwing import chances_right
from samefromhere.throws import throw_counts
from samefromhere.turnnets import crowd_net, turn_net
from samefromhere.unlikes import ring_throws, sides_for, unlike_chance
from samefromhere.views import view
from samefromhere.walks import parting_row, walk_seen
from samefromhere.wishes import barring, choices, first_choice, rounds_for
from samefromhere.written import written

R = Net(["a", "b", "a", "b"], [(i, (i + 1) % 4, "", "") for i in range(4)])
S = Net(["x", "y", "y"], [(0, 1, "", ""), (0, 2, "", "")])


class TestExamples(unittest.TestCase):
    def test_point_15(self):
        self.assertEqual(kinds_for_ever(R), [[0, 2], [1, 3]])
        self.assertEqual(rounds_needed(R), 0)
        self.assertEqual(view(R, 1, 2), (2, "b", (("", "", (1, "a", (("", "", (0, "b", ())),))),)))
        net = with_signs(R, ["a", "b", "b", "b"])
        self.assertEqual(kinds(net, 0), [[0], [1, 2, 3]])
        self.assertEqual(rounds_needed(net), 2)
        self.assertEqual(ranks(net), [0, 1, 2, 3])

    def test_point_25(self):
        a = Net(["a"] * 2, [(0, 1, "", ""), (1, 0, "", "")])
        b = Net(["a"] * 3, [(0, 1, "", ""), (1, 2, "", ""), (2, 0, "", "")])
        self.assertEqual(alike_pairs(a, b), [(0, 0), (0, 1), (0, 2), (1, 0), (1, 1), (1, 2)])
        both = both_over(a, b)
        self.assertEqual(len(both), 6)
        self.assertTrue(is_joined(both))
        self.assertEqual(sorted(road[0] for road in both.roads()), list(range(6)))
        self.assertEqual(sorted(road[1] for road in both.roads()), list(range(6)))
        a = with_signs(a, ["b", "a"])
        self.assertEqual(alike_for(a, 1, b, 0), 0)
        sheet = [("sign", "b"), ("in", "", "", 1, 0)]
        self.assertTrue(holds(a, 1, sheet))
        self.assertFalse(holds(b, 0, sheet))
        self.assertEqual(sheet_rounds(sheet), 1)
        self.assertEqual(sheet_rounds(parting_sheet(a, 1, b, 0)), 1)
        ring = Net(["a"] * 4, [(i, (i + 1) % 4, "", "") for i in range(4)])
        self.assertEqual(even_partings(ring), [[[0, 1, 2, 3]], [[0, 2], [1, 3]], [[0], [1], [2], [3]]])

    def test_point_35(self):
        base = Net(["s"], [(0, 0, "h", "h"), (0, 0, "x", "y"), (0, 0, "y", "x")])
        self.assertEqual([count_turns(base, 2, True), count_turns(base, 2, False)], [4, 2])
        self.assertEqual([count_joined(base, 2, True), count_joined(base, 2, False)], [3, 2])
        self.assertEqual([count_unlike(base, 2, True), count_unlike(base, 2, False)], [4, 2])
        self.assertIsNone(joined_lift(base, 3, False))
        base = Net(["a", "b"], [(0, 0, "", ""), (0, 1, "", ""), (1, 0, "", "")])
        self.assertTrue(is_strong(lift(base, [3, 1], strong_lift(base, [3, 1]))))
        self.assertIsNone(strong_lift(base, [1, 2]))
        self.assertEqual(lone_place(base, [1, 2]), 1)

    def test_point_46(self):
        self.assertEqual(kinds_of([R, S], 0), [[(0, 0), (0, 2)], [(0, 1), (0, 3)], [(1, 0)], [(1, 1), (1, 2)]])
        self.assertEqual(rounds_of([R, S]), 0)
        self.assertEqual(choices([R, S], *written([R, S], "head"), None), [])
        self.assertEqual(barring([R, S], *written([R, S], "head"), None), [0])
        self.assertEqual(choices([S], *written([S], "head"), None), [(1, 0)])
        self.assertEqual(first_choice([R, S], *written([R, S], ("colours", 2)), None), (0, 1, 0, 1))
        self.assertEqual(rounds_for([R, S], *written([R, S], ("colours", 2))), 0)
        self.assertEqual(fewest_marked(S, *written([S], "names"), None), [[1], [2]])
        self.assertEqual(words_for(S, *written([S], "names"), None), [0, 0, 1])

    def test_point_56(self):
        base = Net(["a", "b"], [(0, 1, "", 0), (0, 1, "", 1), (1, 0, "", "")])
        self.assertEqual(count_rows(base, 5), [(1, 1), (2, 1), (2, 2), (3, 2)])
        self.assertEqual(least_weights(base, (1, -1)), (0, 1))
        self.assertEqual(least_weights(base, (-1, 2)), (1, 0))
        self.assertIsNone(least_weights(base, (-1, 1)))
        row = row_below(base, (-1, 1))
        self.assertTrue(is_count_row(base, row) and row[1] < row[0])
        self.assertEqual(share_bound(base, (1, 0), (1, 1)), (2, 3))
        self.assertEqual(share_row(base, (1, 2)), (2, 1))
        self.assertIsNone(share_row(base, (1, 1)))
        self.assertEqual(marked_rows(base, 1, 1), [(1, 1), (2, 1)])

    def test_point_66(self):
        k = Net(["a", "a"], [(0, 1, "x", "x"), (1, 0, "x", "x")])
        self.assertEqual([is_final(view(k, place, rounds)) for place in (0, 1) for rounds in (1, 2)],
                         [False, True, False, True])
        self.assertEqual(final_net(view(k, 0, 2)), Net(["a"], [(0, 0, "x", "x")]))
        self.assertEqual(sizes_with(view(k, 0, 2)), [1, 2])
        self.assertEqual(twice(view(k, 0, 2)), (k, 0, 1))
        self.assertEqual(final_after(k), [2, 2])
        k = Net(["a", "a"], [(0, 1, "x", "y"), (1, 0, "y", "x")])
        self.assertEqual(final_net(view(k, 0, 2)), k)
        self.assertIsNone(twice(view(k, 0, 2)))
        self.assertEqual(settled_after(R), 3)
        self.assertIsNone(guess(view(R, 1, 2)))
        self.assertEqual(guess(view(R, 1, 3)), Net(["a", "b"], [(0, 1, "", ""), (1, 0, "", "")]))

    def test_point_77(self):
        signs = ["s"] * 4
        self.assertEqual(ring_axes(signs, [0, 0, 1, 1]), [3])
        self.assertEqual(kinds_for_ever(door_ring(signs, [0, 0, 1, 1])), [[0, 3], [1, 2]])
        self.assertEqual(barred_by(signs, [0, 0, 1, 1]), (0, 3))
        self.assertEqual(ring_axes(signs, [0, 1, 0, 1]), [1, 3])
        self.assertEqual(kinds_for_ever(door_ring(signs, [0, 1, 0, 1])), [[0, 1, 2, 3]])
        self.assertEqual(ring_axes(signs, [0, 0, 0, 1]), [])
        self.assertIn(ring_sense(signs, [0, 0, 0, 1]), ([0, 0, 0, 1], [1, 1, 1, 0]))
        self.assertEqual([count_barred(4, 1), count_heads(4, 1)], [6, 8])
        self.assertEqual(reading(["s", "t", "u"], [0, 1, 0], 0, 0, 2), [("s", 0), ("t", 1), ("u", 0)])
        self.assertEqual(ring_rounds(["a", "b", "b", "b"]), 2)

    def test_point_87(self):
        signs = ["a", "b"] * 3
        self.assertEqual(own_turns([6], signs), [(0,), (2,), (4,)])
        self.assertEqual(quotient([6], own_turns([6], signs))[0], [2])
        self.assertEqual(rounds_to_part([6], [(1,)], signs), 0)
        signs = ["a", "b", "b"] * 2
        self.assertEqual(own_turns([6], signs), [(0,), (3,)])
        self.assertEqual(rounds_to_part([6], [(1,)], signs), 1)
        self.assertEqual(pattern_counts([4], 2), {1: 2, 2: 2, 4: 12})
        self.assertEqual(len(subgroups([2, 2])), 5)
        signs = ["a", "b", "b", "b", "b"]
        self.assertEqual(kinds_for_ever(crowd_net([5], [(1,), (4,)], signs)), [[0], [1, 4], [2, 3]])
        self.assertEqual(len(kinds_for_ever(turn_net([5], [(1,), (4,)], signs))), 5)

    def test_point_96(self):
        row = [Net(["a"] * 3, [(0, 1, "", "")]), Net(["a"] * 3, [(1, 2, "", "")])]
        self.assertEqual(row_kinds(row, 1), [[0, 2], [1]])
        self.assertEqual([parting_course(row, 0, 2), parting_course(row, 0, 1)], [[1], [0]])
        self.assertIsNone(must_part(row, 0, 1))
        self.assertEqual(keeping(row, 0, 1), ([], [1]))

    def test_point_106(self):
        roads = [(0, 1, "r", "l"), (1, 2, "r", "l")]
        it = Net(["a", "a", "a"], roads + [(other, one, into, out) for one, other, out, into in roads])
        self.assertEqual(walk_seen(it, 0, ["r", None]), [("a", ("r",), None), ("a", ("l", "r"), "l"),
                                                        ("a", ("l", "r"), None)])
        self.assertEqual([parting_row(it, 0, 1), parting_row(it, 0, 0)], [[], None])
        self.assertEqual(fewest_moves([it]), 0)
        roads = [(place, (place + 1) % 4, "r", "l") for place in range(4)]
        roads += [(other, one, into, out) for one, other, out, into in roads]
        ring = Net(["a"] * 4, roads)
        plan, moves = meeting_plan(ring)
        self.assertEqual(len(two_walk(ring, plan, 0, 1, moves + 9)), moves + 10)
        ring = Net(["b", "a", "a", "a"], roads)
        plan, moves = meeting_plan(ring)
        for one in range(4):
            for other in range(4):
                near, far = two_walk(ring, plan, one, other, moves)[-1]
                self.assertEqual(near, far)
        self.assertEqual(fewest_moves([ring]), 2)

    def test_point_116(self):
        r = Net(["a"] * 4, [(place, (place + 1) % 4, "", "") for place in range(4)])
        self.assertEqual([(len(parting), number) for parting, number in throw_counts(r, 2)], [(1, 2), (2, 2), (4, 12)])
        self.assertEqual(unlike_chance(r, 2), (3, 4))
        self.assertEqual(sides_for(r, (9, 10)), 4)
        self.assertEqual(ring_throws(4, 1, 2), {1: 2, 2: 2, 4: 12})
        answers, right = written([r], "head")
        self.assertEqual([best_worth([r], answers, right, 2), best_worth([r], answers, right, 1)], [(3, 4), (0, 1)])

        def hear(state, heard, number):
            own, other = state[1], heard[0][1]
            if state[0] == "done":
                return state
            return ("on", number) if own == other else ("done", 1 if own > other else 0)

        plan = (lambda sign, number: ("on", number), lambda state, out: state[1], hear,
                lambda state: state[1] if state[0] == "done" else None)
        two = Net(["a", "a"], [(0, 1, "", ""), (1, 0, "", "")])
        answers, right = written([two], "head")
        self.assertEqual(chances_right(two, answers, right, plan, 2, 2), [(0, 1), (1, 2), (3, 4)])

    def test_point_126(self):
        n = Net([5, 3, 4], [(0, 2, "", ""), (1, 2, "", "")])
        begin, put = (lambda sign: (sign, "new")), (lambda state, out: [state[0]] if state[1] == "new" else [])
        last = (begin, put, lambda state, into, letter: (letter, "old"), lambda state: state[0])
        greatest = (begin, put, lambda state, into, letter: (max(state[0], letter), "old"), lambda state: state[0])
        for in_turn in (True, False):
            self.assertEqual(quiet_run(n, last, [], in_turn), ((5, 3, 3), 5))
            self.assertEqual(quiet_run(n, last, [0, 0, 0, 1], in_turn), ((5, 3, 5), 5))
            for picks in ([], [0, 0, 0, 1], [2, 1, 0, 0]):
                self.assertEqual(quiet_run(n, greatest, picks, in_turn)[0], (5, 3, 5))
            self.assertEqual(quiet_answers(n, last, in_turn), [(5, 3, 3), (5, 3, 5)])
            self.assertEqual(quiet_answers(n, greatest, in_turn), [(5, 3, 5)])
            self.assertIsNone(order_fault(n, greatest, in_turn))

    def test_point_136(self):
        p = Piece(["a", "a"], [(1, 0, "", "")], [[(1, "x")], [(1, "x")]], [(0, "")])
        self.assertEqual(gate_delays(p), [(2, 2)])
        self.assertEqual(tellings(p, 0, [0, 1], 2), 3)
        other = Piece(["a", "a"], [(1, 0, "", "")], [[(1, "x")], [(1, "y")]], [(0, "")])
        self.assertEqual(tellings(other, 0, [0, 1], 2), 4)
        self.assertEqual(piece_parting(p, other)[2], 3)
        longer = Piece(["a"] * 3, [(1, 0, "", ""), (1, 2, "", "")], p.parts()[2], [(2, "")])
        self.assertEqual(pair_table(p, longer), [(0, 2), (1, 1)])
        self.assertEqual(least_piece(longer), p)

    def test_point_144(self):
        house = House()
        house.do(("net", "r", ["a", "a", "a"], [(0, 1, "", ""), (1, 2, "", ""), (2, 0, "", "")]))
        house.do(("watch", ("rounds", "r")))
        house.do(("hold", ("alike", "r", 0, "r", 1)))
        self.assertEqual([row[1] for row in house.watched()], [0, None])
        with self.assertRaises(WouldChange) as caught:
            house.do(("sign", "r", 1, "b"))
        self.assertEqual(caught.exception.question, ("alike", "r", 0, "r", 1))
        self.assertEqual(house.would(("sign", "r", 1, "b")), [(("rounds", "r"), 0, 1), (("alike", "r", 0, "r", 1), None, -1)])
        self.assertEqual(house.spare_roads("r"), [])
        text = write_house(house)
        self.assertTrue(text.startswith('net r\nplace "a"\n'))
        self.assertTrue(text.endswith('\nhold ("alike","r",0,"r",1)\n'))
