"""Pieces side by side, gates led back, and pieces cut out of nets."""

from samefromhere.basics import is_row
from samefromhere.errors import BadPieces, BadPlaces, NoGate
from samefromhere.nets import is_place_of
from samefromhere.pieces import Piece, need_piece


def pieces_beside(pieces):
    if not is_row(pieces) or len(pieces) == 0:
        raise BadPieces(0)
    for at, piece in enumerate(pieces):
        if not isinstance(piece, Piece):
            raise BadPieces(at)
    signs = []
    roads = []
    ins = []
    outs = []
    for piece in pieces:
        ahead = len(signs)
        more_signs, more_roads, more_ins, more_outs = piece.parts()
        signs.extend(more_signs)
        roads.extend([(ahead + one, ahead + other, out, into) for one, other, out, into in more_roads])
        ins.extend([[(ahead + place, into) for place, into in gate] for gate in more_ins])
        outs.extend([(ahead + place, out) for place, out in more_outs])
    return Piece(signs, roads, ins, outs)


def need_gate(gates, thing):
    if not is_place_of(len(gates), thing):
        raise NoGate(thing)


def looped(piece, number, gate):
    need_piece(piece)
    signs, roads, ins, outs = piece.parts()
    need_gate(outs, number)
    need_gate(ins, gate)
    one, out = outs[number]
    more = [(one, other, out, into) for other, into in ins[gate]]
    return Piece(signs, roads + more, ins[:gate] + ins[gate + 1:], outs)


def places_fault(net, thing):
    """None, or the index that tells what is wrong with an ascending list of unlike places."""
    if not is_row(thing):
        return 0
    for at, place in enumerate(thing):
        if not is_place_of(len(net), place) or at > 0 and place <= thing[at - 1]:
            return at
    return None


def cut_out(net, places):
    fault = places_fault(net, places)
    if fault is not None:
        raise BadPlaces(fault)
    others = [place for place in range(len(net)) if place not in places]
    return _part_of(net, others), _part_of(net, list(places))


def _part_of(net, places):
    """The piece of these places; each road that leads to one of them or away is a gate, numbered as roads ascend."""
    signs = net.signs()
    number = {place: at for at, place in enumerate(places)}
    roads = []
    ins = []
    outs = []
    for one, other, out, into in net.roads():
        if one in number and other in number:
            roads.append((number[one], number[other], out, into))
        elif other in number:
            ins.append([(number[other], into)])
        elif one in number:
            outs.append((number[one], out))
    return Piece([signs[place] for place in places], roads, ins, outs)
