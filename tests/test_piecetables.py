"""Points 129, 130: alike pieces by tables, unlike ones by surroundings."""

import itertools
import random
import unittest

from samefromhere.errors import BadPiece, UnlikeGates
from samefromhere.leastpieces import least_piece
from samefromhere.pieces import Piece, gate_view, put_in
from samefromhere.piecetables import is_pair_table, is_piece_parting, pair_table, piece_parting
from samefromhere.plans import states
from samefromhere.views import view
from tests.helpers import ANY_OBJECTS, PIECE, R, as_lists, faults, mix_plan
from tests.test_pieces import CROWD, EMPTY, PIECES, random_piece

Q = Piece(["a"] * 3, [(1, 0, "", ""), (1, 2, "", "")], PIECE.parts()[2], [(2, "")])
P_OTHER = Piece(["a", "a"], [(1, 0, "", "")], [[(1, "x")], [(1, "y")]], [(0, "")])


def doubled(piece, seed):
    """An alike piece: each place twice, roads and gates in to both, from either; gates out of either."""
    pick = random.Random(seed)
    signs, roads, ins, outs = piece.parts()
    many = len(signs)
    more = [(one + many * pick.randrange(2), other + many * copy, out, into) for one, other, out, into in roads
            for copy in range(2)]
    gates = [[(place + many * copy, into) for place, into in gate for copy in range(2)] for gate in ins]
    return Piece(signs * 2, more, gates, [(place + many * pick.randrange(2), out) for place, out in outs])


def like_gates(one, other):
    return [len(part) for part in one.parts()[2:]] == [len(part) for part in other.parts()[2:]]


def pairs_of_pieces():
    found = [(PIECE, Q), (PIECE, P_OTHER), (Q, P_OTHER), (EMPTY, EMPTY), (CROWD, CROWD), (EMPTY, Piece(["a"], [], [], []))]
    found += [(piece, doubled(piece, seed)) for seed, piece in enumerate(PIECES[:25])]
    pieces = [random_piece(seed, most=3, ins=1, outs=1, signs=1, words=1, roads=3) for seed in range(24)]
    found += list(itertools.combinations(pieces, 2))[::3]
    pieces = [random_piece(seed, most=3, ins=2, outs=2, signs=1, words=1, roads=3) for seed in range(12)]
    found += list(itertools.combinations(pieces, 2))[::2]
    return found


PAIRS = pairs_of_pieces()


def least_unlike(one, other, most=9):
    """The least number of rounds with unlike gate views at gates out, None if marks and views are the same."""
    outs = list(zip(one.parts()[3], other.parts()[3]))
    if any(out != far_out for (_, out), (_, far_out) in outs):
        return 0
    for rounds in range(most):
        if any(gate_view(one, p, rounds) != gate_view(other, q, rounds) for (p, _), (q, _) in outs):
            return rounds
    return None


class TestTables(unittest.TestCase):
    def test_table_or_surrounding(self):
        met = {True: 0, False: 0}
        rounds_met = set()
        for one, other in PAIRS:
            table = pair_table(one=one, other=other)
            parting = piece_parting(one=one, other=other)
            least = least_unlike(one, other)
            self.assertEqual(table is None, parting is not None)
            self.assertEqual(table is None, least is not None)
            met[table is None] += 1
            if table is not None:
                self.assertEqual(table, sorted(table))
                self.assertIs(type(table), list)
                self.assertTrue(all(type(pair) is tuple for pair in table))
                self.assertIs(is_pair_table(one=one, other=other, thing=table), True)
                self.assertTrue(is_pair_table(one, other, tuple(as_lists(table[::-1]))))
            else:
                around, place, rounds = parting
                self.assertEqual([type(parting), type(around)], [tuple, Piece])
                self.assertEqual(rounds, least + 1)
                near, away = put_in(around, one), put_in(around, other)
                self.assertNotEqual(view(near, place, rounds), view(away, place, rounds))
                self.assertEqual(view(near, place, rounds - 1), view(away, place, rounds - 1))
                self.assertIs(is_piece_parting(one=one, other=other, thing=parting), True)
                self.assertFalse(is_piece_parting(one, other, (around, place, rounds - 1)))
                self.assertTrue(is_piece_parting(one, other, [around, place, 10 ** 9]))
                rounds_met.add(rounds)
        self.assertGreater(min(met.values()), 20)
        self.assertLessEqual({1, 2, 3}, rounds_met)

    def test_alike_ones_do_alike_in_all_surroundings(self):
        tried = 0
        for number, (one, other) in enumerate(PAIRS):
            if pair_table(one, other) is None:
                continue
            ins, outs = len(one.parts()[2]), len(one.parts()[3])
            for seed in range(3):
                around = random_piece(seed + number * 3, ins=min(outs, 2), outs=ins, most=3)
                near, away = put_in(around, one), put_in(around, other)
                for plan in (mix_plan(101), mix_plan(3)):
                    for rounds in range(5):
                        many = len(around.parts()[0])
                        self.assertEqual(states(near, plan, rounds)[:many], states(away, plan, rounds)[:many])
                        tried += 1
        self.assertGreater(tried, 200)

    def test_no_surrounding_parts_in_fewer_rounds(self):
        for number, (one, other) in enumerate(PAIRS):
            parting = piece_parting(one, other)
            if parting is not None:
                ins, outs = len(one.parts()[2]), len(one.parts()[3])
                for seed in range(2):
                    around = random_piece(seed + number * 2, ins=outs, outs=ins, most=3)
                    near, away = put_in(around, one), put_in(around, other)
                    for place in range(len(around.parts()[0])):
                        for rounds in range(parting[2]):
                            self.assertEqual(view(near, place, rounds), view(away, place, rounds))

    def test_signs_of_the_surrounding_are_not_taken_for_the_pieces(self):
        """One hears by a gate, the other from a place that looks like any that a surrounding could have."""
        for sign in (0, 1, "", "a"):
            for mark in (0, 1, 2, ""):
                one = Piece(["a", sign], [(1, 0, mark, "x")], [[]], [(0, "o")])
                other = Piece(["a", sign], [], [[(0, "x")]], [(0, "o")])
                parting = piece_parting(one, other)
                self.assertTrue(is_piece_parting(one, other, parting))
                self.assertEqual(parting[2], 2)

    def test_marks_alone(self):
        one = Piece(["a"], [], [], [(0, "o"), (0, "p")])
        other = Piece(["a"], [], [], [(0, "o"), (0, "q")])
        parting = piece_parting(one, other)
        self.assertEqual(parting[2], 1)
        self.assertTrue(is_piece_parting(one, other, parting))
        self.assertIsNone(pair_table(one, other))

    def test_pairs_far_from_the_gates(self):
        """Each pair of a table asks for the senders of its roads in turn."""
        chain = [(at, at + 1, "", "") for at in range(4)]
        one = Piece(list("abcde"), chain, [[(0, "i")]], [(4, "o")])
        other = Piece(list("abcde") * 2, [(at + 5, to + 5, out, into) for at, to, out, into in chain], [[(5, "i")]], [(9, "o")])
        self.assertEqual(pair_table(one, other), [(at, at + 5) for at in range(5)])
        self.assertTrue(is_pair_table(one, other, pair_table(one, other)))
        self.assertFalse(is_pair_table(one, other, [(3, 8), (4, 9)]))

    def test_tables_of_unlike_marks(self):
        one, other = Piece(["a"], [], [], [(0, "o")]), Piece(["a"], [], [], [(0, "p")])
        self.assertFalse(is_pair_table(one, other, [(0, 0)]))
        self.assertTrue(is_pair_table(one, one, [(0, 0)]))

    def test_fewest_of_several_gates(self):
        """A later gate parts them in fewer rounds."""
        signs = ["a", "a", "b", "c"]
        one = Piece(signs, [(2, 0, 0, 0)], [], [(0, 0), (2, 0)])
        other = Piece(signs, [(3, 0, 0, 0)], [], [(0, 0), (3, 0)])
        self.assertEqual(piece_parting(one, other)[2], 1)
        other = Piece(signs, [(3, 0, 0, 0)], [], [(0, 0), (2, 0)])
        self.assertEqual(piece_parting(one, other)[2], 2)

    def test_edges(self):
        self.assertEqual(pair_table(EMPTY, Piece(["a"], [], [], [])), [])
        self.assertTrue(is_pair_table(EMPTY, EMPTY, ()))
        empty_gate = Piece([], [], [[]], [])
        self.assertEqual(pair_table(empty_gate, Piece(["b"], [], [[(0, 0)]], [])), [])
        self.assertEqual(pair_table(PIECE, Q), [(0, 2), (1, 1)])

    def test_the_same_each_time(self):
        for one, other in PAIRS:
            again = [Piece(*as_lists(piece.parts())) for piece in (one, other)]
            self.assertEqual(pair_table(*again), pair_table(one, other))
            self.assertEqual(piece_parting(*again), piece_parting(one, other))

    def test_alike_just_if_least_pieces_are_equal(self):
        for one, other in PAIRS:
            self.assertEqual(pair_table(one, other) is not None, least_piece(one) == least_piece(other))


class TestIsTable(unittest.TestCase):
    def test_greater_ones(self):
        self.assertTrue(is_pair_table(PIECE, Q, [(0, 2), (1, 1), (0, 0)]))
        self.assertFalse(is_pair_table(PIECE, Q, [(0, 2)]))
        self.assertFalse(is_pair_table(PIECE, Q, [(1, 1)]))
        self.assertFalse(is_pair_table(PIECE, Q, [(0, 2), (1, 1), (1, 0)]))
        self.assertFalse(is_pair_table(PIECE, Q, [(0, 2), (1, 1), (0, 2)]))
        self.assertFalse(is_pair_table(PIECE, Q, [(0, 2), (1, 3)]))
        self.assertFalse(is_pair_table(PIECE, Q, [(0, 2, 0), (1, 1)]))
        self.assertFalse(is_pair_table(PIECE, P_OTHER, [(0, 0), (1, 1)]))

    def test_all_lists_of_pairs(self):
        """Told straight from point 130, roads paired in all ways."""
        met = set()
        for one, other in PAIRS:
            near, away = one.parts(), other.parts()
            spots = list(itertools.product(range(len(near[0])), range(len(away[0]))))
            if len(spots) > 6:
                continue
            for size in range(len(spots) + 1):
                for pairs in itertools.combinations(spots, size):
                    told = is_pair_table(one, other, list(pairs))
                    self.assertIs(told, slow_table(near, away, pairs))
                    met.add((told, size))
        self.assertGreater(len(met), 7)

    def test_any_object(self):
        for thing in ANY_OBJECTS:
            self.assertIs(is_pair_table(PIECE, Q, thing), False)
            self.assertIs(is_pair_table(EMPTY, EMPTY, thing), thing in ([], ()) and thing is not False)
            self.assertIs(is_pair_table(PIECE, Q, [(0, 2), (1, 1), thing]), thing == (0, 0))
            self.assertIs(is_pair_table(PIECE, Q, [(0, 2), (1, thing)]), False)
        self.assertFalse(is_pair_table(PIECE, Q, [(False, 2), (True, 1)]))


def slow_table(near, away, pairs):
    if any(out != far_out or (p, q) not in pairs for (p, out), (q, far_out) in zip(near[3], away[3])):
        return False
    for p, q in pairs:
        if near[0][p] != away[0][q]:
            return False
        gates = [sorted((number, str(into)) for number, gate in enumerate(part[2]) for place, into in gate if place == spot)
                 for part, spot in ((near, p), (away, q))]
        if gates[0] != gates[1]:
            return False
        roads = [[road for road in part[1] if road[1] == spot] for part, spot in ((near, p), (away, q))]
        if len(roads[0]) != len(roads[1]):
            return False
        if not any(all((road[0], far[0]) in pairs and road[2:] == far[2:] for road, far in zip(roads[0], order))
                   for order in itertools.permutations(roads[1])):
            return False
    return True


class TestIsParting(unittest.TestCase):
    def test_any_object(self):
        around, place, rounds = piece_parting(PIECE, P_OTHER)
        self.assertTrue(is_piece_parting(PIECE, P_OTHER, [around, place, rounds]))
        for thing in ANY_OBJECTS:
            self.assertIs(is_piece_parting(PIECE, P_OTHER, thing), False)
            self.assertIs(is_piece_parting(PIECE, P_OTHER, (thing, place, rounds)), False)
            if not (type(thing) is int and thing == 0):
                self.assertIs(is_piece_parting(PIECE, P_OTHER, (around, thing, rounds)), False)
            if not (type(thing) is int and thing >= rounds):
                self.assertIs(is_piece_parting(PIECE, P_OTHER, (around, place, thing)), False)
        self.assertFalse(is_piece_parting(PIECE, P_OTHER, (around, place, rounds, 0)))
        self.assertFalse(is_piece_parting(PIECE, P_OTHER, (around, len(around.parts()[0]), 9)))

    def test_surroundings_that_do_not_fit(self):
        signs, roads, ins, outs = piece_parting(PIECE, P_OTHER)[0].parts()
        self.assertFalse(is_piece_parting(PIECE, P_OTHER, (Piece(signs, roads, ins + [[]], outs), 0, 9)))
        self.assertFalse(is_piece_parting(PIECE, P_OTHER, (Piece(signs, roads, ins, outs[:1]), 0, 9)))
        self.assertTrue(is_piece_parting(PIECE, P_OTHER, (Piece(signs, roads, ins, outs + outs), 0, 9)))
        self.assertFalse(is_piece_parting(EMPTY, EMPTY, (EMPTY, 0, 9)))

    def test_by_views(self):
        met = set()
        for number, (one, other) in enumerate(PAIRS):
            ins, outs = len(one.parts()[2]), len(one.parts()[3])
            around = random_piece(number, ins=outs, outs=ins, most=3)
            near, away = put_in(around, one), put_in(around, other)
            for place in range(len(around.parts()[0])):
                for rounds in range(4):
                    wanted = view(near, place, rounds) != view(away, place, rounds)
                    self.assertIs(is_piece_parting(one, other, (around, place, rounds)), wanted)
                    met.add(wanted)
        self.assertEqual(met, {True, False})


class TestErrors(unittest.TestCase):
    def test_in_order(self):
        calls = [pair_table, piece_parting, lambda one, other: is_pair_table(one, other, None),
                 lambda one, other: is_piece_parting(one, other, None)]
        for call in calls:
            for thing in ANY_OBJECTS + [R]:
                if not isinstance(thing, Piece):
                    faults(lambda told: call(told, None), BadPiece, "thing", [(thing, thing)])
                    faults(lambda told: call(CROWD, told), BadPiece, "thing", [(thing, thing)])
            for one, other in itertools.product(PIECES[:12], repeat=2):
                if not like_gates(one, other):
                    with self.assertRaises(UnlikeGates):
                        call(one, other)
        with self.assertRaises(UnlikeGates):
            is_pair_table(EMPTY, Piece([], [], [[]], []), [])


if __name__ == "__main__":
    unittest.main()
