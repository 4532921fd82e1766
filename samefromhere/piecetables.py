"""Alike pieces, by tables of pairs; unlike ones, by what they are put into."""

from samefromhere.alike import alike_for, are_closed, read_pairs
from samefromhere.basics import is_number, is_row, word_key
from samefromhere.errors import UnlikeGates
from samefromhere.nets import is_place_of
from samefromhere.pieces import Piece, gate_ranks, need_piece, put_in


def _need_like_gates(one, other):
    need_piece(one)
    need_piece(other)
    if len(one.in_keys()) != len(other.in_keys()) or len(one.out_keys()) != len(other.out_keys()):
        raise UnlikeGates()


def _joint_ranks(one, other):
    """The rows of ranks of both pieces, as pairs of one's part and other's part."""
    many = len(one.sign_keys())
    return [(row[:many], row[many:]) for row in gate_ranks([one, other])]


def pair_table(one, other):
    _need_like_gates(one, other)
    near, away = _joint_ranks(one, other)[-1]
    pairs = {}
    for (p, out), (q, far_out) in zip(one.out_keys(), other.out_keys()):
        if out != far_out or near[p] != away[q]:
            return None
        pairs[p, q] = True
    near_senders = _senders(one, near)
    far_senders = _senders(other, away)
    todo = list(pairs)
    while todo:
        p, q = todo.pop()
        for pair in zip(near_senders[p], far_senders[q]):
            if pair not in pairs:
                pairs[pair] = True
                todo.append(pair)
    return sorted(pairs)


def _senders(piece, ranks):
    """For each place the senders of the roads to it, in an order that is the same at alike places."""
    rows = [[] for _ in ranks]
    for one, other, out, into in piece.road_keys():
        rows[other].append((into, out, ranks[one], one))
    return [[sender for _, _, _, sender in sorted(row)] for row in rows]


def is_pair_table(one, other, thing):
    _need_like_gates(one, other)
    pairs = read_pairs(len(one.sign_keys()), len(other.sign_keys()), thing)
    if pairs is None:
        return False
    gates = list(zip(one.out_keys(), other.out_keys()))
    if not all([out == far_out and (p, q) in pairs for (p, out), (q, far_out) in gates]):
        return False
    near = _shown(one)
    away = _shown(other)
    return all([near[p] == away[q] for p, q in pairs]) and are_closed(pairs, one.road_keys(), other.road_keys())


def _shown(piece):
    """For each place its sign, and by which gates in what comes is heard there, by which marks."""
    gates = [[] for _ in piece.sign_keys()]
    for number, pairs in enumerate(piece.in_keys()):
        for place, into in pairs:
            gates[place].append((number, into))
    return list(zip(piece.sign_keys(), gates))


def piece_parting(one, other):
    _need_like_gates(one, other)
    found = _first_parted(one, other)
    if found is None:
        return None
    rounds, gate = found
    # Around hears by this gate alone. What it says itself comes from places of unlike signs, by a mark that is none of
    # the pieces': so it is never taken for what they say.
    used = [road[2] for piece in (one, other) for road in piece.road_keys()]
    mark = 0
    while word_key(mark) in used:
        mark += 1
    numbers = list(range(len(one.in_keys())))
    around = Piece([""] + numbers, [], [[]] * gate + [[(0, "")]], [(number + 1, mark) for number in numbers])
    return around, 0, rounds


def _first_parted(one, other):
    """The least pair (rounds behind which a listener hears unlike things, gate out by which it does), None if there is
    none."""
    rows = _joint_ranks(one, other)
    found = []
    for gate, ((p, out), (q, far_out)) in enumerate(zip(one.out_keys(), other.out_keys())):
        parted = [rounds for rounds, (near, away) in enumerate(rows) if near[p] != away[q]]
        if out != far_out:
            found.append((1, gate))
        elif parted:
            found.append((parted[0] + 1, gate))
    return min(found) if found else None


def is_piece_parting(one, other, thing):
    _need_like_gates(one, other)
    if not is_row(thing) or len(thing) != 3:
        return False
    around, place, rounds = thing
    if not isinstance(around, Piece) or not is_place_of(len(around.sign_keys()), place) or not is_number(rounds):
        return False
    if len(around.in_keys()) > len(one.out_keys()) or len(one.in_keys()) > len(around.out_keys()):
        return False
    far = alike_for(put_in(around, one), place, put_in(around, other), place)
    return far is not None and far < rounds
