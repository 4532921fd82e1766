"""Places that are alike, and closed lists of pairs of them."""

from samefromhere.basics import can_pair, is_row
from samefromhere.kinds import rank_rows
from samefromhere.madenets import beside
from samefromhere.nets import is_place_of, need_place


def joint_rows(one, other):
    """The rows of ranks ([13]) of both nets side by side, as pairs of one's part and other's part."""
    many = len(one)
    return [(row[:many], row[many:]) for row in rank_rows(beside([one, other]))]


def alike_for(one, place, other, far):
    need_place(one, place)
    need_place(other, far)
    for done, (near, away) in enumerate(joint_rows(one, other)):
        if near[place] != away[far]:
            return done - 1
    return None


def alike_pairs(one, other):
    near, away = joint_rows(one, other)[-1]
    return [(p, q) for p, rank in enumerate(near) for q, other_rank in enumerate(away) if rank == other_rank]


def is_closed(one, other, thing):
    pairs = read_pairs(len(one), len(other), thing)
    if pairs is None:
        return False
    signs = one.sign_keys()
    far_signs = other.sign_keys()
    if not all([signs[p] == far_signs[q] for p, q in pairs]):
        return False
    return are_closed(pairs, one.road_keys(), other.road_keys())


def read_pairs(many, far_many, thing):
    """The dict of unlike pairs of two places, of so many each, that a list holds, None if it is none of such."""
    if not is_row(thing):
        return None
    pairs = {}
    for pair in thing:
        if not is_row(pair) or len(pair) != 2:
            return None
        p, q = pair
        if not is_place_of(many, p) or not is_place_of(far_many, q) or (p, q) in pairs:
            return None
        pairs[p, q] = True
    return pairs


def are_closed(pairs, near, away):
    """Whether the roads to both places of each pair can be told off against one another, marks being the same and
    senders a pair; near and away are all roads, with flat keys."""
    return all([_can_match(_roads_to(near, p), _roads_to(away, q), pairs) for p, q in pairs])


def _roads_to(roads, place):
    return [(sender, out, into) for sender, other, out, into in roads if other == place]


def _can_match(near, away, pairs):
    options = []
    for sender, out, into in near:
        fitting = [at for at, road in enumerate(away) if road[1:] == (out, into) and (sender, road[0]) in pairs]
        options.append(fitting)
    return can_pair(options, len(away))
