"""Least pieces: none that are alike have fewer places."""

from samefromhere.pieces import Piece, gate_ranks, need_piece
from samefromhere.shapes import reached


def places_needed(piece):
    need_piece(piece)
    many = len(piece.sign_keys())
    pairs = [(other, one) for one, other, _, _ in piece.road_keys()]
    found = {place: True for start, _ in piece.out_keys() for place in reached(many, pairs, start)}
    return sorted(found)


def least_piece(piece):
    small = _cut_to(piece, places_needed(piece))
    signs, roads, ins, outs = small.parts()
    ranks = gate_ranks([small])[-1]
    first = [ranks.index(rank) for rank in sorted(set(ranks))]
    return Piece([signs[place] for place in first],
                 [(ranks[one], ranks[other], out, into) for one, other, out, into in roads if other in first],
                 [[(ranks[place], into) for place, into in gate if place in first] for gate in ins],
                 [(ranks[place], out) for place, out in outs])


def _cut_to(piece, places):
    """The piece with these of its places alone, to which none of the others leads."""
    signs, roads, ins, outs = piece.parts()
    number = {place: at for at, place in enumerate(places)}
    return Piece([signs[place] for place in places],
                 [(number[one], number[other], out, into) for one, other, out, into in roads if other in number],
                 [[(number[place], into) for place, into in gate if place in number] for gate in ins],
                 [(number[place], out) for place, out in outs])
