"""Point 131: least pieces."""

import itertools
import random
import unittest

from samefromhere.errors import BadPiece
from samefromhere.leastnets import least_net
from samefromhere.leastpieces import least_piece, places_needed
from samefromhere.nets import Net
from samefromhere.pieces import Piece, gate_view
from samefromhere.piecetables import pair_table
from tests.helpers import ANY_OBJECTS, PIECE, R, as_lists, ascending, compare_words, faults, samples
from tests.test_piecetables import PAIRS, Q, doubled, like_gates
from tests.test_pieces import CROWD, EMPTY, PIECES, random_piece

MORE = PIECES + [random_piece(seed, signs=1, words=1) for seed in range(40, 70)]
MORE += [doubled(piece, seed) for seed, piece in enumerate(MORE[6:36])]


def slow_needed(piece):
    _, roads, _, outs = piece.parts()
    found = {place for place, _ in outs}
    while True:
        more = found | {one for one, other, _, _ in roads if other in found}
        if more == found:
            return sorted(found)
        found = more


def slow_ranks(piece, places):
    """Ranks of these places, by words as they compare, told straight from points 13 and 131."""
    import functools
    key = functools.cmp_to_key(compare_words)
    signs, roads, ins, _ = piece.parts()

    def numbers(things):
        unlike = []
        for thing in sorted(things, key=key):
            if not unlike or unlike[-1] != thing:
                unlike.append(thing)
        return {place: unlike.index(thing) for place, thing in zip(places, things)}

    line = numbers([signs[place] for place in places])
    while True:
        things = []
        for place in places:
            heard = [(into, out, line[one]) for one, other, out, into in roads if other == place]
            heard += [(into, number) for number, gate in enumerate(ins) for other, into in gate if other == place]
            things.append((line[place], tuple(ascending(heard))))
        later = numbers(things)
        if len(set(later.values())) == len(set(line.values())):
            return line
        line = later


class TestLeast(unittest.TestCase):
    def test_places_needed(self):
        for piece in MORE:
            self.assertEqual(places_needed(piece=piece), slow_needed(piece))
        self.assertEqual([places_needed(EMPTY), places_needed(PIECE), places_needed(Q)], [[], [0, 1], [1, 2]])

    def test_least_pieces(self):
        shrunk = 0
        for piece in MORE:
            signs, roads, ins, outs = piece.parts()
            needed = slow_needed(piece)
            ranks = slow_ranks(piece, needed)
            first = [min(place for place in needed if ranks[place] == rank) for rank in sorted(set(ranks.values()))]
            wanted = Piece([signs[place] for place in first],
                           [(ranks[one], ranks[other], out, into) for one, other, out, into in roads if other in first],
                           [[(ranks[place], into) for place, into in gate if place in first] for gate in ins],
                           [(ranks[place], out) for place, out in outs])
            told = least_piece(piece=piece)
            self.assertEqual(told, wanted)
            shrunk += len(first) < len(signs)
            self.assertTrue(like_gates(piece, told))
            self.assertIsNotNone(pair_table(piece, told))
            self.assertEqual(least_piece(told), told)
            # No two of its places have the same gate views.
            many = len(told.parts()[0])
            views = [gate_view(told, place, many) for place in range(many)]
            self.assertEqual(len(views), len({repr(seen) for seen in views}))
        self.assertGreater(shrunk, 30)

    def test_none_alike_has_fewer_places(self):
        for piece in MORE:
            least = least_piece(piece)
            many = len(least.parts()[0])
            self.assertLessEqual(many, len(piece.parts()[0]))
            for other in MORE:
                if like_gates(piece, other) and pair_table(piece, other) is not None:
                    self.assertGreaterEqual(len(other.parts()[0]), many)
                    self.assertEqual(least_piece(other), least)

    def test_equal_just_if_alike(self):
        met = set()
        for one, other in PAIRS:
            alike = pair_table(one, other) is not None
            self.assertEqual(least_piece(one) == least_piece(other), alike)
            met.add(alike)
        self.assertEqual(met, {True, False})
        # Pieces with unlike numbers of gates are never equal.
        for one, other in itertools.combinations(PIECES, 2):
            if not like_gates(one, other):
                self.assertNotEqual(least_piece(one), least_piece(other))

    def test_numbers_of_places_are_all_one(self):
        pick = random.Random(8)
        for piece in MORE:
            signs, roads, ins, outs = piece.parts()
            order = list(range(len(signs)))
            pick.shuffle(order)
            moved = [None] * len(signs)
            for place, number in enumerate(order):
                moved[number] = signs[place]
            self.assertEqual(least_piece(Piece(moved, [(order[one], order[other], *marks) for one, other, *marks in roads],
                                               [[(order[place], into) for place, into in gate] for gate in ins],
                                               [(order[place], out) for place, out in outs])), least_piece(piece))

    def test_ranks_with_pairs_among_triples(self):
        """The numbers of gates stand among the out marks: 1 behind 0, ahead of "x"; so the order of places follows."""
        for marks, order in (((0, "x"), ["by", "gate", "late"]), ((2, "x"), ["gate", "by", "late"])):
            piece = Piece(["s", "a", "a", "a"], [(0, 1, marks[0], "i"), (0, 3, marks[1], "i")],
                          [[], [(2, "i")]], [(1, "by"), (2, "gate"), (3, "late")])
            outs = least_piece(piece).parts()[3]
            self.assertEqual([out for _, out in sorted(outs)], order)

    def test_edges(self):
        self.assertEqual(least_piece(EMPTY), EMPTY)
        self.assertEqual(least_piece(Piece(["a", "b"], [(0, 1, 0, 0)], [[(0, 0)], []], [])), Piece([], [], [[], []], []))
        self.assertEqual([least_piece(Q), least_piece(PIECE)], [PIECE, PIECE])
        net = R
        all_out = Piece(net.signs(), net.roads(), [], [(place, "") for place in range(4)])
        signs, roads, _, _ = least_piece(all_out).parts()
        self.assertEqual(Net(signs, roads), least_net(net))
        for net in samples(8):
            piece = Piece(net.signs(), net.roads(), [], [(place, "") for place in range(len(net))])
            signs, roads, _, _ = least_piece(piece).parts()
            self.assertEqual(Net(signs, roads), least_net(net))

    def test_errors(self):
        for call in (places_needed, least_piece):
            faults(call, BadPiece, "thing", [(thing, thing) for thing in ANY_OBJECTS + [R]
                                             if not isinstance(thing, Piece)])

    def test_limits(self):
        pick = random.Random(2)
        big = Piece(["a"] * 10, [(pick.randrange(10), pick.randrange(10), 0, 0) for _ in range(30)],
                    [[(pick.randrange(10), 0) for _ in range(8)] for _ in range(4)], [(place, 0) for place in range(4)])
        for piece in (big, doubled(CROWD, 1)):
            least = least_piece(piece)
            self.assertEqual(least_piece(Piece(*as_lists(piece.parts()))), least)
            self.assertIsNotNone(pair_table(piece, least))


if __name__ == "__main__":
    unittest.main()
