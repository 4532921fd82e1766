"""Pieces: nets with gates, by which letters come from outside and go there."""

from samefromhere.basics import first_fault, is_row, numbers_of, read_word, word_key
from samefromhere.errors import BadIns, BadOuts, BadPiece, NoFit, NoPlace
from samefromhere.nets import Ground, Net, is_place_of, read_any_signs, read_roads
from samefromhere.plans import need_rounds


class Piece(Ground):
    """A piece; it never changes."""

    def __init__(self, signs, roads, ins, outs):
        read = read_any_signs(signs)
        many = len(read)
        rows = read_roads(roads, many)
        fault = first_fault(ins, lambda gate: _read_gate(gate, many) is not None)
        if fault is not None:
            raise BadIns(fault)
        fault = first_fault(outs, lambda pair: _read_pair(pair, many) is not None)
        if fault is not None:
            raise BadOuts(fault)
        Ground.__init__(self, read, rows)
        gates = [_read_gate(gate, many) for gate in ins]
        self._ins = tuple([tuple([pair for _, pair in gate]) for gate in gates])
        self._in_keys = tuple([tuple([key for key, _ in gate]) for gate in gates])
        pairs = [_read_pair(pair, many) for pair in outs]
        self._outs = tuple([pair for _, pair in pairs])
        self._out_keys = tuple([key for key, _ in pairs])

    def __eq__(self, other):
        if not isinstance(other, Piece):
            return False
        if self._sign_keys != other._sign_keys or self._road_keys != other._road_keys:
            return False
        return self._in_keys == other._in_keys and self._out_keys == other._out_keys

    def parts(self):
        return list(self._signs), list(self._roads), list(self._ins), list(self._outs)

    def in_keys(self):
        """For each gate in the tuple of its pairs (place, flat key of into)."""
        return list(self._in_keys)

    def out_keys(self):
        """For each gate out the pair (place, flat key of out)."""
        return list(self._out_keys)


def _read_pair(thing, many):
    """The pair of a pair (place, flat key) and the pair (place, word), the place being of so many; None for what is no
    such pair."""
    if not is_row(thing) or len(thing) != 2 or not is_place_of(many, thing[0]):
        return None
    read = read_word(thing[1])
    return None if read is None else ((thing[0], read[1]), (thing[0], read[0]))


def _read_gate(thing, many):
    """The ascending list of what _read_pair tells of a gate's pairs, None for what is no gate in."""
    if not is_row(thing):
        return None
    pairs = [_read_pair(pair, many) for pair in thing]
    return None if None in pairs else sorted(pairs, key=lambda pair: pair[0])


def need_piece(thing):
    if not isinstance(thing, Piece):
        raise BadPiece(thing)


def put_in(around, piece):
    need_piece(around)
    need_piece(piece)
    signs, roads, ins, outs = around.parts()
    inner_signs, inner_roads, inner_ins, inner_outs = piece.parts()
    if len(ins) > len(inner_outs):
        raise NoFit(len(inner_outs))
    if len(inner_ins) > len(outs):
        raise NoFit(len(outs))
    many = len(signs)
    found = roads + [(many + one, many + other, out, into) for one, other, out, into in inner_roads]
    for gate, (one, out) in zip(ins, inner_outs):
        found.extend([(many + one, other, out, into) for other, into in gate])
    for gate, (one, out) in zip(inner_ins, outs):
        found.extend([(one, many + other, out, into) for other, into in gate])
    return Net(signs + inner_signs, found)


def gate_view(piece, place, rounds):
    need_piece(piece)
    signs, roads, ins, _ = piece.parts()
    if not is_place_of(len(signs), place):
        raise NoPlace(place)
    need_rounds(rounds)
    sign_numbers = numbers_of(piece.sign_keys())
    seen = [(0, sign, ()) for sign in signs]
    order = sign_numbers
    for done in range(rounds):
        # Pairs and triples stand beside their keys, which compare as they do.
        heard = [[] for _ in signs]
        for (one, other, out, into), (_, _, out_key, into_key) in zip(roads, piece.road_keys()):
            heard[other].append(((into_key, out_key, order[one]), (into, out, seen[one])))
        for number, (gate, keys) in enumerate(zip(ins, piece.in_keys())):
            for (other, into), (_, into_key) in zip(gate, keys):
                heard[other].append(((into_key, word_key(number)), (into, number)))
        rows = [sorted(row, key=lambda item: item[0]) for row in heard]
        seen = [(done + 1, sign, tuple([item for _, item in row])) for sign, row in zip(signs, rows)]
        order = numbers_of([(sign, tuple([key for key, _ in row])) for sign, row in zip(sign_numbers, rows)])
    return seen[place]


def gate_ranks(pieces):
    """The rows of the ranks by gate views of all places of pieces, one piece's behind another's, from the signs on,
    until a round parts nothing more; gates in of one number are taken for one."""
    signs = []
    come = []
    for piece in pieces:
        ahead = len(signs)
        signs.extend(piece.sign_keys())
        come.extend([[] for _ in piece.sign_keys()])
        for one, other, out, into in piece.road_keys():
            come[ahead + other].append((into, out, ahead + one))
        for number, gate in enumerate(piece.in_keys()):
            for other, into in gate:
                come[ahead + other].append((into, word_key(number), None))
    rows = [numbers_of(signs)]
    while True:
        later = numbers_of([(rank, _heard(row, rows[-1])) for rank, row in zip(rows[-1], come)])
        if len(set(later)) == len(set(rows[-1])):
            return rows
        rows.append(later)


def _heard(row, ranks):
    """What comes to a place: triples by roads, with the senders' ranks, and pairs by gates."""
    return tuple(sorted([(into, out) if sender is None else (into, out, ranks[sender]) for into, out, sender in row]))
