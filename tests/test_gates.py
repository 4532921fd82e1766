"""Points 134, 135: what gates tell."""

import itertools
import random
import time
import unittest

from samefromhere.errors import BadLetters, BadNumber, BadPiece, NoGate
from samefromhere.gates import gate_delays, gates_alike, tellings
from samefromhere.nets import Net
from samefromhere.pieces import Piece, gate_view, put_in
from samefromhere.plans import states
from samefromhere.views import view_plan
from tests.helpers import ANY_OBJECTS, PIECE, ascending, faults, not_words
from tests.test_leastpieces import MORE
from tests.test_pieces import CROWD, EMPTY, PIECES, random_piece


def heard_states(piece, rows):
    """What each place knows behind the rounds in which these rows of letters come, one for each gate: its own past, and
    all that it hears, told straight from points 10 and 135."""
    signs, roads, ins, _ = piece.parts()
    stand = [("sign", sign) for sign in signs]
    for row in rows:
        later = []
        for place, known in enumerate(stand):
            heard = [(into, 0, out, stand[one]) for one, other, out, into in roads if other == place]
            heard += [(into, 1, letter) for gate, letter in zip(ins, row) for other, into in gate if other == place]
            later.append((known, tuple(ascending(heard))))
        stand = later
    return stand


def slow_tellings(piece, number, letters, rounds):
    _, _, ins, outs = piece.parts()
    rows = list(itertools.product(letters, repeat=len(ins)))
    return len({repr(heard_states(piece, come)[outs[number][0]]) for come in itertools.product(rows, repeat=rounds)})


CHAIN = Piece(["a"] * 4, [(0, 1, 0, 0), (1, 2, 0, 0), (2, 3, 0, 0), (0, 2, 0, 0)], [[(0, 0)], [(1, 0), (3, 0)], [(3, 0)]],
              [(3, 0), (2, 0), (0, 0)])


class TestDelays(unittest.TestCase):
    def test_by_two_surroundings(self):
        """Surroundings that differ in one gate: what goes out differs just so many rounds later for the first time."""
        met = set()
        for piece in MORE[:60] + [CHAIN]:
            signs, _, ins, outs = piece.parts()
            told = gate_delays(piece=piece)
            self.assertEqual([type(told)] + [type(row) for row in told], [list] + [tuple] * len(outs))
            self.assertEqual([len(row) for row in told], [len(ins)] * len(outs))
            for gate in range(len(ins)):
                nets = []
                for sign in ("one", "other"):
                    around = Piece([sign if at == gate else "a" for at in range(len(ins) + 1)], [],
                                   [], [(at, ("fresh", at)) for at in range(len(ins))])
                    nets.append(put_in(around, piece))
                first = {}
                for rounds in range(len(signs) + 2):
                    near, away = [states(net, view_plan(), rounds) for net in nets]
                    for number, (place, _) in enumerate(outs):
                        if near[len(ins) + 1 + place] != away[len(ins) + 1 + place]:
                            first.setdefault(number, rounds)
                # What comes in the first round is heard behind it, and goes out in the next.
                self.assertEqual([row[gate] for row in told], [first.get(number) for number in range(len(outs))])
                met.update(row[gate] for row in told)
        self.assertLessEqual({None, 1, 2, 3}, met)

    def test_edges(self):
        self.assertEqual(gate_delays(PIECE), [(2, 2)])
        self.assertEqual(gate_delays(EMPTY), [])
        self.assertEqual(gate_delays(Piece(["a"], [], [], [(0, 0)])), [()])
        self.assertEqual(gate_delays(Piece(["a"], [], [[], [(0, 0)]], [(0, 0)])), [(None, 1)])
        self.assertEqual(gate_delays(CHAIN), [(3, 1, 1), (2, 2, None), (1, None, None)])
        self.assertEqual(gate_delays(CROWD), [(1, None, 1), (1, None, 1), (1, None, 2), (1, None, 1)])


class TestAlike(unittest.TestCase):
    def test_by_gate_views(self):
        met = set()
        for piece in MORE:
            signs, _, _, outs = piece.parts()
            told = gates_alike(piece=piece)
            keys = [repr((out, gate_view(piece, place, len(signs)))) for place, out in outs]
            self.assertEqual(told, [[at for at, key in enumerate(keys) if key == first] for spot, first in enumerate(keys)
                                    if first not in keys[:spot]])
            self.assertTrue(all(type(lot) is list for lot in told))
            met.add(len(told) < len(outs))
        self.assertEqual(met, {True, False})

    def test_by_plans_whatever_comes(self):
        """Gates of one lot say the same by a plan that tells all; unlike ones do not, whatever else comes."""
        for piece in MORE[:40]:
            _, _, ins, outs = piece.parts()
            lot_of = {number: at for at, lot in enumerate(gates_alike(piece)) for number in lot}
            around = Piece(["s"] * (len(ins) + 1), [], [], [(at, ("fresh", at)) for at in range(len(ins))])
            net = put_in(around, piece)
            stand = states(net, view_plan(), 5)[len(ins) + 1:]
            for one, other in itertools.combinations(range(len(outs)), 2):
                same = (outs[one][1], stand[outs[one][0]]) == (outs[other][1], stand[outs[other][0]])
                self.assertEqual(same, lot_of[one] == lot_of[other])

    def test_edges(self):
        self.assertEqual([gates_alike(EMPTY), gates_alike(PIECE), gates_alike(CROWD)], [[], [[0]], [[0, 3], [1], [2]]])


class TestTellings(unittest.TestCase):
    def test_by_all_rows_of_letters(self):
        met = set()
        pieces = PIECES + [random_piece(seed, most=3, ins=1, outs=2, words=1, signs=1) for seed in range(10)]
        for piece in pieces:
            ins, outs = len(piece.parts()[2]), len(piece.parts()[3])
            for number in range(outs):
                for letters in ([0], [0, "x"], [(), (1,), 5]):
                    for rounds in range(4):
                        if len(letters) ** (ins * rounds) <= 100:
                            told = tellings(piece=piece, number=number, letters=letters, rounds=rounds)
                            self.assertEqual(told, slow_tellings(piece, number, letters, rounds))
                            met.add(told)
        self.assertGreater(len(met), 8)

    def test_letters_like_signs(self):
        """A letter from outside is never taken for what a place says: by one plan places can say other words."""
        piece = Piece(["a", "b"], [(0, 1, "o", "i")], [[(1, "i")]], [(1, "")])
        for letters in (["a", "o", ("sign", "a")], [("o", "a"), ("o", ("sign", "a")), 0]):
            self.assertEqual(tellings(piece, 0, letters, 2), 9)

    def test_own_past(self):
        """What came by a gate in earlier rounds is kept, though no road leads back."""
        piece = Piece(["a"], [], [[(0, "i")]], [(0, "o")])
        self.assertEqual([tellings(piece, 0, [0, 1], rounds) for rounds in range(5)], [1, 2, 4, 8, 16])

    def test_edges(self):
        self.assertEqual(tellings(Piece(["a"], [], [], [(0, "")]), 0, [0, 1], 10 ** 9), 1)
        self.assertEqual(tellings(PIECE, 0, [[7]], 10 ** 9), 1)
        self.assertEqual(tellings(Piece(["a"], [], [[], []], [(0, "")]), 0, [0, 1], 5), 1)
        # Both gates are the same to the place that hears them, unless their marks are unlike.
        both = Piece(["a"], [], [[(0, "i")], [(0, "i")]], [(0, "o")])
        apart = Piece(["a"], [], [[(0, "i")], [(0, "j")]], [(0, "o")])
        self.assertEqual([tellings(both, 0, [0, 1, 2], 1), tellings(apart, 0, [0, 1, 2], 1)], [6, 9])
        self.assertEqual([tellings(PIECE, 0, [0, 1], rounds) for rounds in range(4)], [1, 1, 3, 9])

    def test_errors_in_order(self):
        for call in (gate_delays, gates_alike, lambda piece: tellings(piece, None, None, None)):
            faults(call, BadPiece, "thing", [(thing, thing) for thing in ANY_OBJECTS + [Net(["a"], [])]
                                             if not isinstance(thing, Piece)])
        faults(lambda number: tellings(CROWD, number, None, None), NoGate, "thing",
               [(thing, thing) for thing in ANY_OBJECTS + [4] if type(thing) is not int or not 0 <= thing < 4])
        pairs = [(thing, 0) for thing in ANY_OBJECTS if not isinstance(thing, (list, tuple))] + [([], 0), ((), 0)]
        for thing in not_words() + [7, ("w",), ["w"]]:
            pairs += [([7, ["w"], thing, thing], 2)]
        faults(lambda letters: tellings(PIECE, 0, letters, None), BadLetters, "index", pairs)
        faults(lambda rounds: tellings(PIECE, 0, [0], rounds), BadNumber, "thing",
               [(thing, thing) for thing in ANY_OBJECTS if type(thing) is not int or thing < 0])

    def test_limits(self):
        begin = time.time()
        pick = random.Random(5)
        for ins, letters, rounds in ((1, 2, 10), (1, 44, 2), (2, 2, 5), (5, 2, 2), (3, 12, 1), (1, 1999, 1)):
            piece = Piece(["a"] * 10, [(pick.randrange(10), pick.randrange(10), pick.randrange(2), 0) for _ in range(30)],
                          [[(pick.randrange(10), pick.randrange(2)) for _ in range(8)] for _ in range(ins)], [(0, "")])
            self.assertLessEqual(tellings(piece, 0, list(range(letters)), rounds), letters ** (ins * rounds))
        self.assertEqual(tellings(Piece(["a"], [], [[(0, 0)]], [(0, 0)]), 0, list(range(1999)), 1), 1999)
        self.assertLess(time.time() - begin, 10)


if __name__ == "__main__":
    unittest.main()
