"""What gates tell: how late, which alike, and how much."""

from samefromhere.basics import all_rows, grouped, words_fault
from samefromhere.errors import BadLetters
from samefromhere.joinedpieces import need_gate
from samefromhere.pieces import gate_ranks, need_piece
from samefromhere.plans import need_rounds
from samefromhere.shapes import reached

# Stands where a road has its out mark: what comes by a gate bears none.
NO_MARK = -1


def gate_delays(piece):
    need_piece(piece)
    many = len(piece.sign_keys())
    delays = []
    for place, _ in piece.out_keys():
        roads = _roads_to(many, piece.road_keys(), place)
        delays.append(tuple([_delay(roads, gate) for gate in piece.in_keys()]))
    return delays


def _roads_to(many, keys, place):
    """For each place how few roads lead from it to this one, None if none do."""
    near = [None] * many
    near[place] = 0
    for done in range(many):
        found = {one: True for one, other, _, _ in keys if near[other] == done and near[one] is None}
        near = [done + 1 if at in found else known for at, known in enumerate(near)]
    return near


def _delay(roads, gate):
    found = [roads[place] + 1 for place, _ in gate if roads[place] is not None]
    return min(found) if found else None


def gates_alike(piece):
    need_piece(piece)
    ranks = gate_ranks([piece])[-1]
    return grouped([(mark, ranks[place]) for place, mark in piece.out_keys()])


def tellings(piece, number, letters, rounds):
    need_piece(piece)
    need_gate(piece.out_keys(), number)
    fault = words_fault(letters)
    if fault is not None:
        raise BadLetters(fault)
    need_rounds(rounds)
    hearing = Hearing(piece, piece.out_keys()[number][0])
    if len(letters) == 1 or not hearing.gates:
        return 1
    stands = [hearing.first]
    come = all_rows(len(hearing.gates), len(letters))
    for _ in range(rounds):
        stands = list({hearing.later(stand, row): True for stand in stands for row in come})
    return len(set([hearing.at_gate(stand) for stand in stands]))


class Hearing:
    """All that comes to a place in a piece, and to those from which roads lead there; what a place knows is a number.
    A stand is the tuple of what these places know."""

    def __init__(self, piece, place):
        keys = piece.road_keys()
        places = sorted(reached(len(piece.sign_keys()), [(other, one) for one, other, _, _ in keys], place))
        spot = {near: at for at, near in enumerate(places)}
        self._at = spot[place]
        self._roads = [[] for _ in places]
        for one, other, out, into in keys:
            if other in spot:
                self._roads[spot[other]].append((into, out, spot[one]))
        gates = [[(spot[near], into) for near, into in gate if near in spot] for gate in piece.in_keys()]
        self.gates = [gate for gate in gates if gate]
        signs = piece.sign_keys()
        self._known = {}
        self.first = tuple([self._number(("sign", signs[near])) for near in places])

    def _number(self, key):
        return self._known.setdefault(key, len(self._known))

    def later(self, stand, letters):
        """The stand behind a round in which these letters come by the gates."""
        heard = [[(into, out, stand[one]) for into, out, one in row] for row in self._roads]
        for gate, letter in zip(self.gates, letters):
            for place, into in gate:
                heard[place].append((into, (NO_MARK,), letter))
        return tuple([self._number((known, tuple(sorted(row)))) for known, row in zip(stand, heard)])

    def at_gate(self, stand):
        return stand[self._at]
