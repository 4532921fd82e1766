"""Points 127 to 129: pieces, what they are put into, and gate views."""

import random
import unittest

from samefromhere.errors import (BadIns, BadNumber, BadOuts, BadPiece, BadRoads, BadSigns, NoFit, NoPlace)
from samefromhere.nets import Net
from samefromhere.pieces import Piece, gate_view, put_in
from samefromhere.views import view
from tests.helpers import (ANY_OBJECTS, ODD_WORDS, PIECE, R, as_lists, ascending, faults, not_words, samples, word_like)

EMPTY = Piece([], [], [], [])


def random_piece(seed, most=4, ins=None, outs=None, signs=2, words=2, roads=6, clean=False):
    pick = random.Random(seed)
    many = pick.randint(1, most)
    ends = [pick.choice(ODD_WORDS) for _ in range(words)]
    tokens = [pick.choice(ODD_WORDS) for _ in range(signs)]
    number_in = pick.randint(0, 3) if ins is None else ins
    number_out = pick.randint(0, 3) if outs is None else outs
    gates = [[(pick.randrange(many), pick.choice(ends)) for _ in range(pick.choice([0, 1, 1, 2, 3]))]
             for _ in range(number_in)]
    return Piece([pick.choice(tokens) for _ in range(many)],
                 [(pick.randrange(many), pick.randrange(many), pick.choice(ends), pick.choice(ends))
                  for _ in range(pick.randint(0, roads))],
                 gates, [(pick.randrange(many), pick.choice(ends)) for _ in range(number_out)])


# One place by several gates, gates without pairs, gates out of one place, places that nobody hears.
CROWD = Piece(["a", "b", "c"], [(0, 1, "x", 1), (0, 0, "x", 1), (0, 1, "x", 1)],
              [[(0, "p"), (0, "p"), (1, "q")], [], [(0, "p")]], [(0, "x"), (0, "y"), (1, "x"), (0, "x")])
PIECES = [EMPTY, PIECE, CROWD, Piece(["a"], [], [], []), Piece(["a"], [], [[]], [(0, "")]), Piece([], [], [[], []], [])]
PIECES += [random_piece(seed) for seed in range(40)]


class TestPieces(unittest.TestCase):
    def test_parts(self):
        signs = ["b", ["a", []]]
        roads = [[1, 0, "x", ["m"]], (0, 1, 5, ()), (0, 1, -5, ())]
        ins = [[[1, "q"], (0, "z"), (1, 7), (0, "z")], [], ([0, ["w"]],)]
        outs = [[1, ["o"]], (0, "p"), [1, ["o"]]]
        for given in ((signs, roads, ins, outs), tuple(map(tuple, (signs, roads, ins, outs)))):
            told = Piece(*given).parts()
            self.assertEqual(told, (["b", ("a", ())], [(0, 1, -5, ()), (0, 1, 5, ()), (1, 0, "x", ("m",))],
                                    [((0, "z"), (0, "z"), (1, 7), (1, "q")), (), ((0, ("w",)),)],
                                    [(1, ("o",)), (0, "p"), (1, ("o",))]))
            self.assertEqual([type(told)] + [type(part) for part in told], [tuple, list, list, list, list])
        self.assertEqual(Piece(signs=[], roads=[], ins=[], outs=[]).parts(), ([], [], [], []))
        self.assertEqual(CROWD.parts()[2][1], ())

    def test_ascending_in_the_order_of_words(self):
        for piece in PIECES:
            signs, roads, ins, outs = piece.parts()
            self.assertEqual(roads, ascending(roads))
            for gate in ins:
                self.assertEqual(list(gate), ascending(gate))
            self.assertEqual(Piece(signs, roads[::-1], [gate[::-1] for gate in ins], outs), piece)

    def test_it_never_changes(self):
        given = [["a", ["b"]], [[0, 1, ["x"], 0]], [[[0, "p"]]], [[1, "q"]]]
        piece = Piece(*given)
        wanted = piece.parts()
        given[0][1].append("c")
        given[1][0][2].append("c")
        given[2][0].append((1, "p"))
        given[3].clear()
        told = piece.parts()
        self.assertEqual(told, wanted)
        for part in told:
            part.clear()
        self.assertEqual(piece.parts(), wanted)

    def test_equal(self):
        for one in PIECES:
            self.assertEqual(one, Piece(*as_lists(one.parts())))
            for other in PIECES:
                self.assertEqual(one == other, one.parts() == other.parts())
            for thing in ANY_OBJECTS:
                if not isinstance(thing, Piece):
                    self.assertFalse(one == thing)
                    self.assertTrue(one != thing)
        self.assertFalse(Piece(["a"], [], [], []) == Net(["a"], []))
        self.assertFalse(PIECE == Piece(["a", "a"], [(1, 0, "", "")], [[(1, "x")], [(1, "y")]], [(0, "")]))
        self.assertFalse(PIECE == Piece(["a", "a"], [(1, 0, "", "")], [[(1, "x")], [(1, "x")]], [(0, "o")]))
        self.assertFalse(PIECE == Piece(["a", "b"], [(1, 0, "", "")], [[(1, "x")], [(1, "x")]], [(0, "")]))
        self.assertFalse(PIECE == Piece(["a", "a"], [(1, 0, "", "x")], [[(1, "x")], [(1, "x")]], [(0, "")]))

    def test_bad_signs_and_roads(self):
        for thing in ANY_OBJECTS:
            if not isinstance(thing, (list, tuple)):
                faults(lambda signs: Piece(signs, None, None, None), BadSigns, "index", [(thing, 0)])
                faults(lambda roads: Piece([], roads, None, None), BadRoads, "index", [(thing, 0)])
            faults(lambda roads: Piece(["a"], roads, None, None), BadRoads, "index", [([(0, 0, 0, 0), thing], 1)])
            faults(lambda roads: Piece([], roads, None, None), BadRoads, "index", [([(0, 0, 0, 0), thing], 0)])
        for thing in not_words():
            faults(lambda signs: Piece(signs, None, None, None), BadSigns, "index", [(["a", thing, thing], 1)])
            faults(lambda roads: Piece(["a"], roads, None, None), BadRoads, "index", [([(0, 0, 0, thing)], 0)])

    def gate_pairs(self):
        """Things that are no pair (place, word) of a piece of two places."""
        found = [(0,), (0, "", ""), (2, ""), (-1, ""), ("0", ""), (True, ""), (None, ""), [0, True], [[0], ""]]
        found += [thing for thing in ANY_OBJECTS if not (isinstance(thing, (list, tuple)) and len(thing) == 2
                                                         and type(thing[0]) is int and 0 <= thing[0] < 2
                                                         and word_like(thing[1]))]
        return found + [(0, thing) for thing in not_words()]

    def test_bad_ins_and_outs(self):
        for thing in ANY_OBJECTS:
            if not isinstance(thing, (list, tuple)):
                faults(lambda ins: Piece(["a", "a"], [], ins, None), BadIns, "index",
                       [(thing, 0), ([[], thing, thing], 1)])
                faults(lambda outs: Piece(["a", "a"], [], [], outs), BadOuts, "index", [(thing, 0)])
        for thing in self.gate_pairs():
            faults(lambda ins: Piece(["a", "a"], [], ins, None), BadIns, "index",
                   [([[(0, "")], [(1, ""), thing]], 1), (([thing], None), 0)])
            faults(lambda outs: Piece(["a", "a"], [], [], outs), BadOuts, "index",
                   [([(0, ""), [1, ""], thing, thing], 2), ((thing,), 0)])
        faults(lambda ins: Piece([], [], ins, None), BadIns, "index", [([[], [(0, "")]], 1)])
        faults(lambda outs: Piece([], [], [], outs), BadOuts, "index", [([(0, "")], 0)])

    def test_bad_piece(self):
        for thing in ANY_OBJECTS:
            if not isinstance(thing, Piece):
                for call in (lambda told: gate_view(told, None, None), lambda told: put_in(told, None),
                             lambda told: put_in(PIECE, told)):
                    faults(call, BadPiece, "thing", [(thing, thing)])


def slow_put_in(around, piece):
    signs, roads, ins, outs = around.parts()
    inner = piece.parts()
    many = len(signs)
    found = list(roads) + [(many + one, many + other, out, into) for one, other, out, into in inner[1]]
    for number, gate in enumerate(ins):
        for place, into in gate:
            found.append((many + inner[3][number][0], place, inner[3][number][1], into))
    for number, gate in enumerate(inner[2]):
        for place, into in gate:
            found.append((outs[number][0], many + place, outs[number][1], into))
    return Net(signs + inner[0], found)


class TestPutIn(unittest.TestCase):
    def test_nets(self):
        done = 0
        for around in PIECES:
            for piece in PIECES:
                ins, outs = len(around.parts()[2]), len(around.parts()[3])
                inner_ins, inner_outs = len(piece.parts()[2]), len(piece.parts()[3])
                if ins > inner_outs:
                    faults(lambda told: put_in(around, told), NoFit, "many", [(piece, inner_outs)])
                elif inner_ins > outs:
                    faults(lambda told: put_in(around, told), NoFit, "many", [(piece, outs)])
                elif not around.parts()[0] and not piece.parts()[0]:
                    faults(lambda told: put_in(around, told), BadSigns, "index", [(piece, 0)])
                else:
                    self.assertEqual(put_in(around=around, piece=piece), slow_put_in(around, piece))
                    done += 1
        self.assertGreater(done, 200)

    def test_edges(self):
        one = Piece(["a"], [], [], [(0, "o"), (0, "p")])
        other = Piece(["b"], [], [[(0, 1), (0, 2)]], [(0, "q")])
        self.assertEqual(put_in(one, other), Net(["a", "b"], [(0, 1, "o", 1), (0, 1, "o", 2)]))
        self.assertEqual(put_in(other, one), Net(["b", "a"], [(1, 0, "o", 1), (1, 0, "o", 2)]))
        self.assertEqual(put_in(Piece([], [], [], []), one), Net(["a"], []))
        # Empty gates count, too.
        faults(lambda told: put_in(told, EMPTY), NoFit, "many", [(Piece([], [], [[]], []), 0)])
        faults(lambda told: put_in(EMPTY, told), NoFit, "many", [(Piece([], [], [[]], []), 0)])
        faults(lambda told: put_in(EMPTY, told), BadSigns, "index", [(EMPTY, 0)])


def slow_gate_view(piece, place, rounds):
    signs, roads, ins, _ = piece.parts()
    if rounds == 0:
        return 0, signs[place], ()
    heard = [(into, out, slow_gate_view(piece, one, rounds - 1)) for one, other, out, into in roads if other == place]
    heard += [(into, number) for number, gate in enumerate(ins) for other, into in gate if other == place]
    return rounds, signs[place], tuple(ascending(heard))


class TestGateViews(unittest.TestCase):
    def test_views(self):
        for piece in PIECES:
            for place in range(len(piece.parts()[0])):
                for rounds in range(4):
                    seen = gate_view(piece=piece, place=place, rounds=rounds)
                    self.assertEqual(seen, slow_gate_view(piece, place, rounds))
                    self.assertIs(type(seen[2]), tuple)

    def test_pairs_among_triples(self):
        """A pair stands by its number among the out marks: ahead of a triple that goes on from it."""
        piece = Piece(["a", "b"], [(0, 1, 0, "x"), (0, 1, 1, "x"), (0, 1, "", "x"), (0, 1, -1, "x")],
                      [[], [(1, "x")], [(1, "x"), (1, "w")]], [])
        near = (0, "a", ())
        self.assertEqual(gate_view(piece, 1, 1), (1, "b", (("w", 2), ("x", -1, near), ("x", 0, near), ("x", 1),
                                                           ("x", 1, near), ("x", 2), ("x", "", near))))

    def test_without_gates_they_are_views(self):
        for net in samples(8):
            piece = Piece(net.signs(), net.roads(), [], [])
            for place in range(len(net)):
                self.assertEqual(gate_view(piece, place, 3), view(net, place, 3))

    def test_errors(self):
        faults(lambda place: gate_view(PIECE, place, None), NoPlace, "thing",
               [(thing, thing) for thing in ANY_OBJECTS + [2] if type(thing) is not int or not 0 <= thing < 2])
        faults(lambda place: gate_view(EMPTY, place, None), NoPlace, "thing", [(0, 0)])
        faults(lambda rounds: gate_view(PIECE, 0, rounds), BadNumber, "thing",
               [(thing, thing) for thing in ANY_OBJECTS if type(thing) is not int or thing < 0])
        faults(lambda thing: gate_view(thing, 0, 0), BadPiece, "thing", [(R, R)])


if __name__ == "__main__":
    unittest.main()
