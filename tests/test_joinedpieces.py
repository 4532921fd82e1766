"""Points 132, 133: pieces side by side and looped, and pieces cut out of nets."""

import itertools
import random
import unittest

from samefromhere.errors import BadPiece, BadPieces, BadPlaces, NoGate
from samefromhere.joinedpieces import cut_out, looped, pieces_beside
from samefromhere.leastpieces import least_piece
from samefromhere.madenets import renamed
from samefromhere.nets import Net
from samefromhere.pieces import Piece, put_in
from samefromhere.piecetables import pair_table
from tests.helpers import ANY_OBJECTS, LONE, PIECE, R, faults, samples
from tests.test_piecetables import PAIRS, doubled
from tests.test_pieces import CROWD, EMPTY, PIECES

SMALL = [net for net in samples(20) if len(net) <= 5]


def alike(one, other):
    return pair_table(one, other) is not None


class TestBeside(unittest.TestCase):
    def test_pieces(self):
        told = pieces_beside(pieces=[PIECE, CROWD, EMPTY, PIECE])
        signs, roads, ins, outs = told.parts()
        self.assertEqual(signs, ["a", "a", "a", "b", "c", "a", "a"])
        self.assertEqual(roads, [(1, 0, "", ""), (2, 2, "x", 1), (2, 3, "x", 1), (2, 3, "x", 1), (6, 5, "", "")])
        self.assertEqual(ins, [((1, "x"),)] * 2 + [((2, "p"), (2, "p"), (3, "q")), (), ((2, "p"),)] + [((6, "x"),)] * 2)
        self.assertEqual(outs, [(0, ""), (2, "x"), (2, "y"), (3, "x"), (2, "x"), (5, "")])
        for piece in PIECES:
            self.assertEqual(pieces_beside((piece,)), piece)
            self.assertEqual(pieces_beside([piece, EMPTY]), piece)

    def test_alike_ones_leave_it_alike(self):
        done = 0
        for number, (one, other) in enumerate(PAIRS):
            rest = PIECES[number % len(PIECES)]
            for near, away in (([one, rest], [other, rest]), ([rest, one], [rest, other])):
                near, away = pieces_beside(near), pieces_beside(away)
                if alike(one, other):
                    self.assertTrue(alike(near, away))
                    done += 1
                elif len(one.parts()[3]):
                    self.assertFalse(alike(near, away))
        self.assertGreater(done, 40)

    def test_errors(self):
        pairs = [(thing, 0) for thing in ANY_OBJECTS if not isinstance(thing, (list, tuple))] + [([], 0), ((), 0)]
        for thing in ANY_OBJECTS + [R]:
            if not isinstance(thing, Piece):
                pairs += [([thing], 0), ([PIECE, EMPTY, thing, thing], 2)]
        faults(pieces_beside, BadPieces, "index", pairs)


class TestLooped(unittest.TestCase):
    def test_gates(self):
        for piece in PIECES:
            signs, roads, ins, outs = piece.parts()
            for number, gate in itertools.product(range(len(outs)), range(len(ins))):
                more = [(outs[number][0], place, outs[number][1], into) for place, into in ins[gate]]
                wanted = Piece(signs, roads + more, [row for at, row in enumerate(ins) if at != gate], outs)
                self.assertEqual(looped(piece=piece, number=number, gate=gate), wanted)
        told = looped(CROWD, 1, 0)
        self.assertEqual(told.parts()[1], [(0, 0, "x", 1), (0, 0, "y", "p"), (0, 0, "y", "p"), (0, 1, "x", 1), (0, 1, "x", 1),
                                           (0, 1, "y", "q")])
        self.assertEqual(told.parts()[2], [(), ((0, "p"),)])

    def test_alike_ones_leave_it_alike(self):
        done = 0
        for one, other in PAIRS:
            if alike(one, other):
                _, _, ins, outs = one.parts()
                for number, gate in itertools.product(range(len(outs)), range(len(ins))):
                    self.assertTrue(alike(looped(one, number, gate), looped(other, number, gate)))
                    done += 1
        self.assertGreater(done, 40)

    def test_errors(self):
        faults(lambda piece: looped(piece, None, None), BadPiece, "thing",
               [(thing, thing) for thing in ANY_OBJECTS if not isinstance(thing, Piece)])
        bad = [(thing, thing) for thing in ANY_OBJECTS + [4] if type(thing) is not int or not 0 <= thing < 4]
        faults(lambda number: looped(CROWD, number, None), NoGate, "thing", bad)
        bad = [(thing, thing) for thing in ANY_OBJECTS + [3] if type(thing) is not int or not 0 <= thing < 3]
        faults(lambda gate: looped(CROWD, 3, gate), NoGate, "thing", bad)
        faults(lambda gate: looped(EMPTY, gate, gate), NoGate, "thing", [(0, 0)])


class TestAlikeOnesPutIn(unittest.TestCase):
    def test_least_pieces_for_pieces(self):
        """A piece of several alike ones, looped: made with least ones it is alike to what is made with others."""
        pick = random.Random(1)
        for seed, piece in enumerate(PIECES[1:25]):
            double = doubled(piece, seed)
            for made in (piece, double, least_piece(piece)):
                both = pieces_beside([made, PIECE])
                number, gate = pick.randrange(len(both.parts()[3])), pick.randrange(len(both.parts()[2]))
                pick.seed(seed)
                self.assertTrue(alike(both, pieces_beside([piece, PIECE])))
                self.assertTrue(alike(looped(both, number, gate), looped(pieces_beside([piece, PIECE]), number, gate)))


def numbers_behind(net, places):
    """Where each place of net is in what cut_out's parts, put together, are."""
    others = [place for place in range(len(net)) if place not in places]
    order = [0] * len(net)
    for at, place in enumerate(others + list(places)):
        order[place] = at
    return order


class TestCutOut(unittest.TestCase):
    def test_put_together_it_is_the_net(self):
        for net in SMALL:
            for size in range(len(net) + 1):
                for places in itertools.combinations(range(len(net)), size):
                    told = cut_out(net=net, places=places)
                    self.assertEqual([type(told)] + [type(part) for part in told], [tuple, Piece, Piece])
                    around, piece = told
                    self.assertEqual(piece.parts()[0], [net.signs()[place] for place in places])
                    self.assertEqual(len(around.parts()[0]), len(net) - size)
                    self.assertEqual(put_in(around, piece), renamed(net, numbers_behind(net, places)))
                    self.assertEqual(cut_out(net, list(places)), told)

    def test_gates_as_roads_ascend(self):
        for net in SMALL:
            for places in itertools.combinations(range(len(net)), min(2, len(net))):
                around, piece = cut_out(net, places)
                order = {place: at for at, place in enumerate(places)}
                out = [(order[road[0]], road[2]) for road in net.roads() if road[0] in order and road[1] not in order]
                come = [((order[road[1]], road[3]),) for road in net.roads() if road[0] not in order and road[1] in order]
                self.assertEqual([piece.parts()[2], piece.parts()[3]], [come, out])
                self.assertEqual([len(around.parts()[2]), len(around.parts()[3])], [len(out), len(come)])
                self.assertTrue(all(len(gate) == 1 for gate in around.parts()[2]))

    def test_alike_ones_cut_out(self):
        """Two pieces of a net on a ring: alike ones have equal least pieces."""
        net = Net(["a", "b", "c"] * 2, [(at, (at + 1) % 6, "o", "i") for at in range(6)])
        _, one = cut_out(net, [0, 1])
        _, other = cut_out(net, [3, 4])
        self.assertTrue(alike(one, other))
        _, other = cut_out(net, [1, 2])
        self.assertFalse(alike(one, other))

    def test_edges(self):
        self.assertEqual(cut_out(LONE, []), (Piece(["a"], [], [], []), EMPTY))
        self.assertEqual(cut_out(LONE, [0]), (EMPTY, Piece(["a"], [], [], [])))
        wide = Net(["a", "b"], [(0, 1, at, at) for at in range(30)])
        self.assertEqual(len(cut_out(wide, [1])[1].parts()[2]), 30)

    def test_errors(self):
        pairs = [(thing, 0) for thing in ANY_OBJECTS if not isinstance(thing, (list, tuple))]
        for thing in ANY_OBJECTS + [4, 1]:
            if not (type(thing) is int and thing in (2, 3)):
                pairs += [([0, 1, thing, None], 2), ((1, thing), 1)]
            if not (type(thing) is int and 0 <= thing < 4):
                pairs += [([thing], 0), ((thing, thing), 0)]
        pairs += [([1, 0], 1), ([2, 2], 1), ([0, 3, 3], 2), ([3, 1, None], 1)]
        faults(lambda places: cut_out(R, places), BadPlaces, "index", pairs)


if __name__ == "__main__":
    unittest.main()
